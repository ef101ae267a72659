/- What a record is with just the fields that its kind names: the walks of record.named. -/
import Derived.Test.YtgjofinbdigmcaaGreatG12
set_option linter.unusedVariables false
set_option maxHeartbeats 2000000
set_option maxRecDepth 100000
namespace Go.Proofs.YtgjofinbdigmcaaGreat.Rec
open Go.Proofs.YtgjofinbdigmcaaGreat.Mem Go.Proofs.YtgjofinbdigmcaaGreat.Pack
open Go.ChangeShapes Go.WideShapes Go.ChangeAt Go.RowKit
theorem named_1 (r:Rcd) (hk:r.kind=1) (w:World):Calls Tryz.prog 58 #[rv r] w fun e w'=>e = .returned (rv (named r))∧Below w.heap.size w w':=by
 obtain ⟨k,b,g,q1,q2,q3,s1,s2,ri,se,ke,va,ve,ex⟩:=r
 simp only at hk
 subst hk
 have e:named ⟨1,b,g,q1,q2,q3,s1,s2,ri,se,ke,va,ve,ex⟩=⟨1,b,g,q1,q2,q3,s1,s2,0,0,nothing,nothing,0,0⟩:=rfl
 rw [e]
 simp only [rv,cells]
 clear e
 go_enter Tryz.func58,Tryz.ntmps58
 go_wp2
 go_region
 go_wp2
 exact bodyPost_ret (results_cell_row rfl _ _ (w.heap.size+1) 35 _ (0,0) _ rfl (heap3 w _ _ _) Tryz.underlying35 rfl rec_size) rfl ⟨rfl,(below3 w _ _ _).drew⟩
theorem named_2 (r:Rcd) (hk:r.kind=2) (w:World):Calls Tryz.prog 58 #[rv r] w fun e w'=>e = .returned (rv (named r))∧Below w.heap.size w w':=by
 obtain ⟨k,b,g,q1,q2,q3,s1,s2,ri,se,ke,va,ve,ex⟩:=r
 simp only at hk
 subst hk
 have e:named ⟨2,b,g,q1,q2,q3,s1,s2,ri,se,ke,va,ve,ex⟩=⟨2,b,g,0,0,0,0,0,0,0,nothing,nothing,0,0⟩:=rfl
 rw [e]
 simp only [rv,cells]
 clear e
 go_enter Tryz.func58,Tryz.ntmps58
 go_wp2
 exact bodyPost_ret (results_cell_row rfl _ _ (w.heap.size+1) 35 _ (0,0) _ rfl (heap3 w _ _ _) Tryz.underlying35 rfl rec_size) rfl ⟨rfl,(below3 w _ _ _)⟩
theorem named_3 (r:Rcd) (hk:r.kind=3) (w:World):Calls Tryz.prog 58 #[rv r] w fun e w'=>e = .returned (rv (named r))∧Below w.heap.size w w':=by
 obtain ⟨k,b,g,q1,q2,q3,s1,s2,ri,se,ke,va,ve,ex⟩:=r
 simp only at hk
 subst hk
 have e:named ⟨3,b,g,q1,q2,q3,s1,s2,ri,se,ke,va,ve,ex⟩=⟨3,b,g,0,0,0,0,0,0,0,ke,va,ve,ex⟩:=rfl
 rw [e]
 simp only [rv,cells]
 clear e
 go_enter Tryz.func58,Tryz.ntmps58
 go_wp2
 go_region
 go_wp2
 exact bodyPost_ret (results_cell_row rfl _ _ (w.heap.size+1) 35 _ (0,0) _ rfl (heap3 w _ _ _) Tryz.underlying35 rfl rec_size) rfl ⟨rfl,(below3 w _ _ _).drew⟩
theorem named_4 (r:Rcd) (hk:r.kind=4) (w:World):Calls Tryz.prog 58 #[rv r] w fun e w'=>e = .returned (rv (named r))∧Below w.heap.size w w':=by
 obtain ⟨k,b,g,q1,q2,q3,s1,s2,ri,se,ke,va,ve,ex⟩:=r
 simp only at hk
 subst hk
 have e:named ⟨4,b,g,q1,q2,q3,s1,s2,ri,se,ke,va,ve,ex⟩=⟨4,b,g,0,0,0,0,0,0,0,ke,nothing,ve,0⟩:=rfl
 rw [e]
 simp only [rv,cells]
 clear e
 go_enter Tryz.func58,Tryz.ntmps58
 go_wp2
 go_region
 go_wp2
 exact bodyPost_ret (results_cell_row rfl _ _ (w.heap.size+1) 35 _ (0,0) _ rfl (heap3 w _ _ _) Tryz.underlying35 rfl rec_size) rfl ⟨rfl,(below3 w _ _ _).drew⟩
end Go.Proofs.YtgjofinbdigmcaaGreat.Rec
