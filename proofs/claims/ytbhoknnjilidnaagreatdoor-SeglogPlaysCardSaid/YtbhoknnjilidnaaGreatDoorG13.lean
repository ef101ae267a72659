/- Whether a record may be as the document says: the walks of the reference's May. -/
import Derived.Test.YtbhoknnjilidnaaGreatDoorG12
set_option linter.unusedSimpArgs false
set_option linter.unusedVariables false
set_option maxHeartbeats 2000000
set_option maxRecDepth 100000
namespace Go.Proofs.YtbhoknnjilidnaaGreatDoor.Rec
open Go.Proofs.YtbhoknnjilidnaaGreatDoor.Mem Go.Proofs.YtbhoknnjilidnaaGreatDoor.Pack
open Go.ChangeShapes Go.WideShapes Go.ChangeAt Go.RowKit
theorem ref_1f (r:Rcd) (hk:r.kind=1) (h2:0≤r.bucket) (h3:r.bucket≤63) (h4:r.gen≠0) (hq:¬ (inQ r.keys∧inQ r.bytes∧inQ r.budget)) (w:World):Calls Tryz.prog 57 #[rv r] w fun e w'=>e = .returned (.bool false)∧Below w.heap.size w w':=by
 have heq:=fun w=>rec_equal (named r) r w
 have hql:=fun w=>rec_eql (named r) r w
 have hyy:decide (r=named r)=decide (named r=r):=by rw [Bool.eq_iff_iff,decide_eq_true_iff,decide_eq_true_iff];exact ⟨Eq.symm,Eq.symm⟩
 clear hyy
 generalize decide (named r=r)=y at *
 obtain ⟨k,b,g,q1,q2,q3,s1,s2,ri,se,ke,va,ve,ex⟩:=r
 simp only at hk h2 h3 h4
 subst hk
 have e:named ⟨1,b,g,q1,q2,q3,s1,s2,ri,se,ke,va,ve,ex⟩=⟨1,b,g,q1,q2,q3,s1,s2,0,0,nothing,nothing,0,0⟩:=rfl
 rw [e] at heq hql
 have z0:((0:Nat):Int)=0:=rfl
 simp only [rv,cells,nothing,z0] at heq hql ⊢
 clear e z0
 have h5:((g:Int) == 0)=false:=beq_eq_false_iff_ne.2 (by omega)
 clear h4
 have HQ:=Lib.hid (decide_eq_false hq)
 clear hq
 go_enter Tryz.func57,Tryz.ntmps57
 go_wp2_with fail
 refine (refQuota_any q1 q2 q3 _).mono ?_
 rintro e w1 ⟨rfl,rfl⟩
 rw [HQ.out]
 go_wp2_with fail
 go_ret
 exact ⟨rfl,below3 w _ _ _⟩
theorem ref_2 (r:Rcd) (hk:r.kind=2) (h2:0≤r.bucket) (h3:r.bucket≤63) (h4:r.gen≠0) (w:World):Calls Tryz.prog 57 #[rv r] w fun e w'=>e = .returned (.bool (decide (r=named r)))∧Below w.heap.size w w':=by
 have heq:=fun w=>rec_equal (named r) r w
 have hql:=fun w=>rec_eql (named r) r w
 have hyy:decide (r=named r)=decide (named r=r):=by rw [Bool.eq_iff_iff,decide_eq_true_iff,decide_eq_true_iff];exact ⟨Eq.symm,Eq.symm⟩
 rw [hyy]
 clear hyy
 generalize decide (named r=r)=y at *
 obtain ⟨k,b,g,q1,q2,q3,s1,s2,ri,se,ke,va,ve,ex⟩:=r
 simp only at hk h2 h3 h4
 subst hk
 have e:named ⟨2,b,g,q1,q2,q3,s1,s2,ri,se,ke,va,ve,ex⟩=⟨2,b,g,0,0,0,0,0,0,0,nothing,nothing,0,0⟩:=rfl
 rw [e] at heq hql
 have z0:((0:Nat):Int)=0:=rfl
 simp only [rv,cells,nothing,z0] at heq hql ⊢
 clear e z0
 have h5:((g:Int) == 0)=false:=beq_eq_false_iff_ne.2 (by omega)
 clear h4
 go_enter Tryz.func57,Tryz.ntmps57
 go_wp2
 go_ret
 exact ⟨rfl,below2 w _ _⟩
theorem ref_6 (r:Rcd) (hk:r.kind=6) (h2:0≤r.bucket) (h3:r.bucket≤63) (h4:r.gen≠0) (w:World):Calls Tryz.prog 57 #[rv r] w fun e w'=>e = .returned (.bool (decide (r=named r)))∧Below w.heap.size w w':=by
 have heq:=fun w=>rec_equal (named r) r w
 have hql:=fun w=>rec_eql (named r) r w
 have hyy:decide (r=named r)=decide (named r=r):=by rw [Bool.eq_iff_iff,decide_eq_true_iff,decide_eq_true_iff];exact ⟨Eq.symm,Eq.symm⟩
 rw [hyy]
 clear hyy
 generalize decide (named r=r)=y at *
 obtain ⟨k,b,g,q1,q2,q3,s1,s2,ri,se,ke,va,ve,ex⟩:=r
 simp only at hk h2 h3 h4
 subst hk
 have e:named ⟨6,b,g,q1,q2,q3,s1,s2,ri,se,ke,va,ve,ex⟩=⟨6,b,g,0,0,0,0,s2,0,0,nothing,nothing,0,0⟩:=rfl
 rw [e] at heq hql
 have z0:((0:Nat):Int)=0:=rfl
 simp only [rv,cells,nothing,z0] at heq hql ⊢
 clear e z0
 have h5:((g:Int) == 0)=false:=beq_eq_false_iff_ne.2 (by omega)
 clear h4
 go_enter Tryz.func57,Tryz.ntmps57
 go_wp2
 go_ret
 exact ⟨rfl,below2 w _ _⟩
theorem ref_7 (r:Rcd) (hk:r.kind=7) (h2:0≤r.bucket) (h3:r.bucket≤63) (h4:r.gen≠0) (w:World):Calls Tryz.prog 57 #[rv r] w fun e w'=>e = .returned (.bool (decide (r=named r)))∧Below w.heap.size w w':=by
 have heq:=fun w=>rec_equal (named r) r w
 have hql:=fun w=>rec_eql (named r) r w
 have hyy:decide (r=named r)=decide (named r=r):=by rw [Bool.eq_iff_iff,decide_eq_true_iff,decide_eq_true_iff];exact ⟨Eq.symm,Eq.symm⟩
 rw [hyy]
 clear hyy
 generalize decide (named r=r)=y at *
 obtain ⟨k,b,g,q1,q2,q3,s1,s2,ri,se,ke,va,ve,ex⟩:=r
 simp only at hk h2 h3 h4
 subst hk
 have e:named ⟨7,b,g,q1,q2,q3,s1,s2,ri,se,ke,va,ve,ex⟩=⟨7,b,g,0,0,0,0,0,0,0,nothing,nothing,0,0⟩:=rfl
 rw [e] at heq hql
 have z0:((0:Nat):Int)=0:=rfl
 simp only [rv,cells,nothing,z0] at heq hql ⊢
 clear e z0
 have h5:((g:Int) == 0)=false:=beq_eq_false_iff_ne.2 (by omega)
 clear h4
 go_enter Tryz.func57,Tryz.ntmps57
 go_wp2
 go_ret
 exact ⟨rfl,below2 w _ _⟩
theorem ref_3t (r:Rcd) (hk:r.kind=3) (h2:0≤r.bucket) (h3:r.bucket≤63) (h4:r.gen≠0) (hk1:0 < r.key.size) (hk2:r.key.size≤64) (hv:r.val.size≤1000) (w:World):Calls Tryz.prog 57 #[rv r] w fun e w'=>e = .returned (.bool (decide (r=named r)))∧Below w.heap.size w w':=by
 have heq:=fun w=>rec_equal (named r) r w
 have hql:=fun w=>rec_eql (named r) r w
 have hyy:decide (r=named r)=decide (named r=r):=by rw [Bool.eq_iff_iff,decide_eq_true_iff,decide_eq_true_iff];exact ⟨Eq.symm,Eq.symm⟩
 rw [hyy]
 clear hyy
 generalize decide (named r=r)=y at *
 obtain ⟨k,b,g,q1,q2,q3,s1,s2,ri,se,ke,va,ve,ex⟩:=r
 simp only at hk h2 h3 h4
 subst hk
 have e:named ⟨3,b,g,q1,q2,q3,s1,s2,ri,se,ke,va,ve,ex⟩=⟨3,b,g,0,0,0,0,0,0,0,ke,va,ve,ex⟩:=rfl
 rw [e] at heq hql
 have z0:((0:Nat):Int)=0:=rfl
 simp only [rv,cells,nothing,z0] at heq hql ⊢
 clear e z0
 have h5:((g:Int) == 0)=false:=beq_eq_false_iff_ne.2 (by omega)
 clear h4
 have da:decide ((0:Int) < (ke.size:Int))=true:=decide_eq_true (by simp only at *; omega)
 have db:decide ((ke.size:Int)≤64)=true:=decide_eq_true (by simp only at *; omega)
 have dc:decide ((va.size:Int)≤1000)=true:=decide_eq_true (by simp only at *; omega)
 go_enter Tryz.func57,Tryz.ntmps57
 go_wp2
 go_ret
 exact ⟨rfl,below2 w _ _⟩
end Go.Proofs.YtbhoknnjilidnaaGreatDoor.Rec
