/- What a record is with just the fields that its kind names: the walks of record.named. -/
import Derived.Test.YtgjofinbdigmcaaGreatG12
set_option linter.unusedVariables false
set_option maxHeartbeats 2000000
set_option maxRecDepth 100000
namespace Go.Proofs.YtgjofinbdigmcaaGreat.Rec
open Go.Proofs.YtgjofinbdigmcaaGreat.Mem Go.Proofs.YtgjofinbdigmcaaGreat.Pack
open Go.ChangeShapes Go.WideShapes Go.ChangeAt Go.RowKit
theorem named_5 (r:Rcd) (hk:r.kind=5) (w:World):Calls Tryz.prog 58 #[rv r] w fun e w'=>e = .returned (rv (named r))∧Below w.heap.size w w':=by
 obtain ⟨k,b,g,q1,q2,q3,s1,s2,ri,se,ke,va,ve,ex⟩:=r
 simp only at hk
 subst hk
 have e:named ⟨5,b,g,q1,q2,q3,s1,s2,ri,se,ke,va,ve,ex⟩=⟨5,b,g,0,0,0,0,s2,ri,se,nothing,nothing,0,0⟩:=rfl
 rw [e]
 simp only [rv,cells]
 clear e
 go_enter Tryz.func58,Tryz.ntmps58
 go_wp2
 go_region
 go_wp2
 exact bodyPost_ret (results_cell_row rfl _ _ (w.heap.size+1) 35 _ (0,0) _ rfl (heap3 w _ _ _) Tryz.underlying35 rfl rec_size) rfl ⟨rfl,(below3 w _ _ _).drew⟩
theorem named_6 (r:Rcd) (hk:r.kind=6) (w:World):Calls Tryz.prog 58 #[rv r] w fun e w'=>e = .returned (rv (named r))∧Below w.heap.size w w':=by
 obtain ⟨k,b,g,q1,q2,q3,s1,s2,ri,se,ke,va,ve,ex⟩:=r
 simp only at hk
 subst hk
 have e:named ⟨6,b,g,q1,q2,q3,s1,s2,ri,se,ke,va,ve,ex⟩=⟨6,b,g,0,0,0,0,s2,0,0,nothing,nothing,0,0⟩:=rfl
 rw [e]
 simp only [rv,cells]
 clear e
 go_enter Tryz.func58,Tryz.ntmps58
 go_wp2
 exact bodyPost_ret (results_cell_row rfl _ _ (w.heap.size+1) 35 _ (0,0) _ rfl (heap3 w _ _ _) Tryz.underlying35 rfl rec_size) rfl ⟨rfl,(below3 w _ _ _)⟩
theorem named_7 (r:Rcd) (hk:r.kind=7) (w:World):Calls Tryz.prog 58 #[rv r] w fun e w'=>e = .returned (rv (named r))∧Below w.heap.size w w':=by
 obtain ⟨k,b,g,q1,q2,q3,s1,s2,ri,se,ke,va,ve,ex⟩:=r
 simp only at hk
 subst hk
 have e:named ⟨7,b,g,q1,q2,q3,s1,s2,ri,se,ke,va,ve,ex⟩=⟨7,b,g,0,0,0,0,0,0,0,nothing,nothing,0,0⟩:=rfl
 rw [e]
 simp only [rv,cells]
 clear e
 go_enter Tryz.func58,Tryz.ntmps58
 go_wp2
 exact bodyPost_ret (results_cell_row rfl _ _ (w.heap.size+1) 35 _ (0,0) _ rfl (heap3 w _ _ _) Tryz.underlying35 rfl rec_size) rfl ⟨rfl,(below3 w _ _ _)⟩
theorem named_0 (r:Rcd) (hk:r.kind < 1∨7 < r.kind) (w:World):Calls Tryz.prog 58 #[rv r] w fun e w'=>e = .returned (rv (named r))∧Below w.heap.size w w':=by
 obtain ⟨k,b,g,q1,q2,q3,s1,s2,ri,se,ke,va,ve,ex⟩:=r
 simp only at hk
 have e:named ⟨k,b,g,q1,q2,q3,s1,s2,ri,se,ke,va,ve,ex⟩=zero:=by
  unfold named
  simp only
  rw [if_neg (by omega),if_neg (by omega),if_neg (by omega),if_neg (by omega),if_neg (by omega),if_neg (by omega)]
 rw [e]
 simp only [rv,cells,zero]
 have h1:(k == 1)=false:=beq_eq_false_iff_ne.2 (by omega)
 have h2:(k == 2)=false:=beq_eq_false_iff_ne.2 (by omega)
 have h3:(k == 3)=false:=beq_eq_false_iff_ne.2 (by omega)
 have h4:(k == 4)=false:=beq_eq_false_iff_ne.2 (by omega)
 have h5:(k == 5)=false:=beq_eq_false_iff_ne.2 (by omega)
 have h6:(k == 6)=false:=beq_eq_false_iff_ne.2 (by omega)
 have h7:(k == 7)=false:=beq_eq_false_iff_ne.2 (by omega)
 clear e hk
 go_enter Tryz.func58,Tryz.ntmps58
 go_wp2
 exact bodyPost_ret (results_cell_row rfl _ _ (w.heap.size+1) 35 _ (0,0) _ rfl (heap3 w _ _ _) Tryz.underlying35 rfl rec_size) rfl ⟨rfl,(below3 w _ _ _)⟩
end Go.Proofs.YtgjofinbdigmcaaGreat.Rec
