/- Whether a record may be as the document says: the walks of the reference's May. Whether a record may be as the document says: the walks of the reference's May. Whether a record may be as the document says: the walks of the reference's May. Whether a record may be as the document says: the walks of the reference's May. Whether a record may be as the document says: the walks of the reference's May. Whether a record may be as the document says: the walks of the reference's May. -/
import Derived.Test.YtgjofinbdigmcaaGreatG12
import Derived.Test.YtgjofinbdigmcaaGreatG16
set_option linter.unusedSimpArgs false
set_option linter.unusedVariables false
set_option maxHeartbeats 2000000
set_option maxRecDepth 100000
section
namespace Go.Proofs.YtgjofinbdigmcaaGreat.Rec
open Go.Proofs.YtgjofinbdigmcaaGreat.Mem Go.Proofs.YtgjofinbdigmcaaGreat.Pack
open Go.ChangeShapes Go.WideShapes Go.ChangeAt Go.RowKit
theorem in_yes (n:Int) (h:inQ n) (w:World):Calls Tryz.prog 84 #[.int .i64 n] w fun e w'=>e = .returned (.bool true)∧w=w':=by
 obtain ⟨h1,h2⟩:=h
 have d2:decide (n≤1099511627776)=true:=decide_eq_true h2
 go_enter Tryz.func84,Tryz.ntmps84
 go_wp2
 go_ret
 exact ⟨rfl,rfl⟩
theorem in_no (n:Int) (h:¬ inQ n) (w:World):Calls Tryz.prog 84 #[.int .i64 n] w fun e w'=>e = .returned (.bool false)∧w=w':=by
 by_cases h1:0≤n
 ·have h2:¬ n≤1099511627776:=fun e=>h ⟨h1,e⟩
  have d2:decide (n≤1099511627776)=false:=decide_eq_false h2
  clear h
  go_enter Tryz.func84,Tryz.ntmps84
  go_wp2
  go_ret
  exact ⟨rfl,rfl⟩
 ·have d1:decide (0≤n)=false:=decide_eq_false h1
  clear h
  go_enter Tryz.func84,Tryz.ntmps84
  go_wp2
  go_ret
  exact ⟨rfl,rfl⟩
theorem in_any (n:Int) (w:World):Calls Tryz.prog 84 #[.int .i64 n] w fun e w'=>e = .returned (.bool (decide (inQ n)))∧w=w':=by
 by_cases h:inQ n
 ·rw [decide_eq_true h];exact in_yes n h w
 ·rw [decide_eq_false h];exact in_no n h w
theorem refQuota_any (q1 q2 q3:Int) (w:World):Calls Tryz.prog 65 #[.agg #[.int .i64 q1,.int .i64 q2,.int .i64 q3]] w fun e w'=>e = .returned (.bool (decide (inQ q1∧inQ q2∧inQ q3)))∧w'=w.alloc (.cells #[.int .i64 q1,.int .i64 q2,.int .i64 q3] 24):=by
 have k1:=fun w=>in_any q1 w
 have k2:=fun w=>in_any q2 w
 have k3:=fun w=>in_any q3 w
 have e:decide (inQ q1∧inQ q2∧inQ q3)=(decide (inQ q1) && (decide (inQ q2) && decide (inQ q3))):=by simp
 rw [e]
 clear e
 generalize decide (inQ q1)=b1 at *
 generalize decide (inQ q2)=b2 at *
 generalize decide (inQ q3)=b3 at *
 cases b1 <;> cases b2 <;> cases b3 <;>
  (go_enter Tryz.func65,Tryz.ntmps65
   go_wp2_with fail
   refine (k1 _).mono ?_
   rintro e w1 ⟨rfl,rfl⟩
   go_wp2_with fail
   refine (k2 _).mono ?_
   rintro e w1 ⟨rfl,rfl⟩
   go_wp2_with fail
   refine (k3 _).mono ?_
   rintro e w1 ⟨rfl,rfl⟩
   go_wp2_with fail
   go_ret
   exact ⟨rfl,rfl⟩)
theorem below2 (w:World) (A B:Obj):Below w.heap.size w ((w.alloc A).alloc B):=((Below.refl _ w).alloc (Nat.le_refl _) A).alloc (by simp) B
end Go.Proofs.YtgjofinbdigmcaaGreat.Rec
end
section
namespace Go.Proofs.YtgjofinbdigmcaaGreat.Rec
open Go.Proofs.YtgjofinbdigmcaaGreat.Mem Go.Proofs.YtgjofinbdigmcaaGreat.Pack
open Go.ChangeShapes Go.WideShapes Go.ChangeAt Go.RowKit
theorem ref_low_kind (r:Rcd) (h0:r.kind < 1) (w:World):Calls Tryz.prog 35 #[rv r] w fun e w'=>e = .returned (.bool false)∧Below w.heap.size w w':=by
 obtain ⟨k,b,g,q1,q2,q3,s1,s2,ri,se,ke,va,ve,ex⟩:=r
 simp only [rv,cells]
 simp only at h0
 go_enter Tryz.func35,Tryz.ntmps35
 go_wp2
 go_ret
 exact ⟨rfl,(Below.refl _ w).alloc (Nat.le_refl _) _⟩
theorem ref_high_kind (r:Rcd) (h0:1≤r.kind) (h1:7 < r.kind) (w:World):Calls Tryz.prog 35 #[rv r] w fun e w'=>e = .returned (.bool false)∧Below w.heap.size w w':=by
 obtain ⟨k,b,g,q1,q2,q3,s1,s2,ri,se,ke,va,ve,ex⟩:=r
 simp only [rv,cells]
 simp only at h0 h1
 go_enter Tryz.func35,Tryz.ntmps35
 go_wp2
 go_ret
 exact ⟨rfl,(Below.refl _ w).alloc (Nat.le_refl _) _⟩
theorem ref_low (r:Rcd) (h0:1≤r.kind) (h1:r.kind≤7) (h2:r.bucket < 0) (w:World):Calls Tryz.prog 35 #[rv r] w fun e w'=>e = .returned (.bool false)∧Below w.heap.size w w':=by
 obtain ⟨k,b,g,q1,q2,q3,s1,s2,ri,se,ke,va,ve,ex⟩:=r
 simp only [rv,cells]
 simp only at h0 h1 h2
 go_enter Tryz.func35,Tryz.ntmps35
 go_wp2
 go_ret
 exact ⟨rfl,(Below.refl _ w).alloc (Nat.le_refl _) _⟩
theorem ref_high (r:Rcd) (h0:1≤r.kind) (h1:r.kind≤7) (h2:0≤r.bucket) (h3:63 < r.bucket) (w:World):Calls Tryz.prog 35 #[rv r] w fun e w'=>e = .returned (.bool false)∧Below w.heap.size w w':=by
 obtain ⟨k,b,g,q1,q2,q3,s1,s2,ri,se,ke,va,ve,ex⟩:=r
 simp only [rv,cells]
 simp only at h0 h1 h2 h3
 go_enter Tryz.func35,Tryz.ntmps35
 go_wp2
 go_ret
 exact ⟨rfl,(Below.refl _ w).alloc (Nat.le_refl _) _⟩
theorem ref_gen (r:Rcd) (h0:1≤r.kind) (h1:r.kind≤7) (h2:0≤r.bucket) (h3:r.bucket≤63) (h4:r.gen=0) (w:World):Calls Tryz.prog 35 #[rv r] w fun e w'=>e = .returned (.bool false)∧Below w.heap.size w w':=by
 obtain ⟨k,b,g,q1,q2,q3,s1,s2,ri,se,ke,va,ve,ex⟩:=r
 simp only [rv,cells]
 simp only at h0 h1 h2 h3 h4
 subst h4
 go_enter Tryz.func35,Tryz.ntmps35
 go_wp2
 go_ret
 exact ⟨rfl,(Below.refl _ w).alloc (Nat.le_refl _) _⟩
theorem ref_1t (r:Rcd) (hk:r.kind=1) (h2:0≤r.bucket) (h3:r.bucket≤63) (h4:r.gen≠0) (hq:inQ r.keys∧inQ r.bytes∧inQ r.budget) (w:World):Calls Tryz.prog 35 #[rv r] w fun e w'=>e = .returned (.bool (decide (r=named r)))∧Below w.heap.size w w':=by
 have heq:=fun w=>rec_equal (named r) r w
 have hql:=fun w=>rec_eql (named r) r w
 have hyy:decide (r=named r)=decide (named r=r):=by rw [Bool.eq_iff_iff,decide_eq_true_iff,decide_eq_true_iff];exact ⟨Eq.symm,Eq.symm⟩
 rw [hyy]
 clear hyy
 generalize decide (named r=r)=y at *
 obtain ⟨k,b,g,q1,q2,q3,s1,s2,ri,se,ke,va,ve,ex⟩:=r
 simp only at hk h2 h3 h4
 subst hk
 have e:named ⟨1,b,g,q1,q2,q3,s1,s2,ri,se,ke,va,ve,ex⟩=⟨1,b,g,q1,q2,q3,s1,s2,0,0,nothing,nothing,0,0⟩:=rfl
 rw [e] at heq hql
 have z0:((0:Nat):Int)=0:=rfl
 simp only [rv,cells,nothing,z0] at heq hql ⊢
 clear e z0
 have h5:((g:Int) == 0)=false:=beq_eq_false_iff_ne.2 (by omega)
 clear h4
 have HQ:=Lib.hid (decide_eq_true hq)
 clear hq
 go_enter Tryz.func35,Tryz.ntmps35
 go_wp2_with fail
 refine (refQuota_any q1 q2 q3 _).mono ?_
 rintro e w1 ⟨rfl,rfl⟩
 rw [HQ.out]
 go_wp2_with fail
 go_ret
 exact ⟨rfl,below3 w _ _ _⟩
end Go.Proofs.YtgjofinbdigmcaaGreat.Rec
end
section
namespace Go.Proofs.YtgjofinbdigmcaaGreat.Rec
open Go.Proofs.YtgjofinbdigmcaaGreat.Mem Go.Proofs.YtgjofinbdigmcaaGreat.Pack
open Go.ChangeShapes Go.WideShapes Go.ChangeAt Go.RowKit
theorem ref_1f (r:Rcd) (hk:r.kind=1) (h2:0≤r.bucket) (h3:r.bucket≤63) (h4:r.gen≠0) (hq:¬ (inQ r.keys∧inQ r.bytes∧inQ r.budget)) (w:World):Calls Tryz.prog 35 #[rv r] w fun e w'=>e = .returned (.bool false)∧Below w.heap.size w w':=by
 have heq:=fun w=>rec_equal (named r) r w
 have hql:=fun w=>rec_eql (named r) r w
 have hyy:decide (r=named r)=decide (named r=r):=by rw [Bool.eq_iff_iff,decide_eq_true_iff,decide_eq_true_iff];exact ⟨Eq.symm,Eq.symm⟩
 clear hyy
 generalize decide (named r=r)=y at *
 obtain ⟨k,b,g,q1,q2,q3,s1,s2,ri,se,ke,va,ve,ex⟩:=r
 simp only at hk h2 h3 h4
 subst hk
 have e:named ⟨1,b,g,q1,q2,q3,s1,s2,ri,se,ke,va,ve,ex⟩=⟨1,b,g,q1,q2,q3,s1,s2,0,0,nothing,nothing,0,0⟩:=rfl
 rw [e] at heq hql
 have z0:((0:Nat):Int)=0:=rfl
 simp only [rv,cells,nothing,z0] at heq hql ⊢
 clear e z0
 have h5:((g:Int) == 0)=false:=beq_eq_false_iff_ne.2 (by omega)
 clear h4
 have HQ:=Lib.hid (decide_eq_false hq)
 clear hq
 go_enter Tryz.func35,Tryz.ntmps35
 go_wp2_with fail
 refine (refQuota_any q1 q2 q3 _).mono ?_
 rintro e w1 ⟨rfl,rfl⟩
 rw [HQ.out]
 go_wp2_with fail
 go_ret
 exact ⟨rfl,below3 w _ _ _⟩
theorem ref_2 (r:Rcd) (hk:r.kind=2) (h2:0≤r.bucket) (h3:r.bucket≤63) (h4:r.gen≠0) (w:World):Calls Tryz.prog 35 #[rv r] w fun e w'=>e = .returned (.bool (decide (r=named r)))∧Below w.heap.size w w':=by
 have heq:=fun w=>rec_equal (named r) r w
 have hql:=fun w=>rec_eql (named r) r w
 have hyy:decide (r=named r)=decide (named r=r):=by rw [Bool.eq_iff_iff,decide_eq_true_iff,decide_eq_true_iff];exact ⟨Eq.symm,Eq.symm⟩
 rw [hyy]
 clear hyy
 generalize decide (named r=r)=y at *
 obtain ⟨k,b,g,q1,q2,q3,s1,s2,ri,se,ke,va,ve,ex⟩:=r
 simp only at hk h2 h3 h4
 subst hk
 have e:named ⟨2,b,g,q1,q2,q3,s1,s2,ri,se,ke,va,ve,ex⟩=⟨2,b,g,0,0,0,0,0,0,0,nothing,nothing,0,0⟩:=rfl
 rw [e] at heq hql
 have z0:((0:Nat):Int)=0:=rfl
 simp only [rv,cells,nothing,z0] at heq hql ⊢
 clear e z0
 have h5:((g:Int) == 0)=false:=beq_eq_false_iff_ne.2 (by omega)
 clear h4
 go_enter Tryz.func35,Tryz.ntmps35
 go_wp2
 go_ret
 exact ⟨rfl,below2 w _ _⟩
theorem ref_6 (r:Rcd) (hk:r.kind=6) (h2:0≤r.bucket) (h3:r.bucket≤63) (h4:r.gen≠0) (w:World):Calls Tryz.prog 35 #[rv r] w fun e w'=>e = .returned (.bool (decide (r=named r)))∧Below w.heap.size w w':=by
 have heq:=fun w=>rec_equal (named r) r w
 have hql:=fun w=>rec_eql (named r) r w
 have hyy:decide (r=named r)=decide (named r=r):=by rw [Bool.eq_iff_iff,decide_eq_true_iff,decide_eq_true_iff];exact ⟨Eq.symm,Eq.symm⟩
 rw [hyy]
 clear hyy
 generalize decide (named r=r)=y at *
 obtain ⟨k,b,g,q1,q2,q3,s1,s2,ri,se,ke,va,ve,ex⟩:=r
 simp only at hk h2 h3 h4
 subst hk
 have e:named ⟨6,b,g,q1,q2,q3,s1,s2,ri,se,ke,va,ve,ex⟩=⟨6,b,g,0,0,0,0,s2,0,0,nothing,nothing,0,0⟩:=rfl
 rw [e] at heq hql
 have z0:((0:Nat):Int)=0:=rfl
 simp only [rv,cells,nothing,z0] at heq hql ⊢
 clear e z0
 have h5:((g:Int) == 0)=false:=beq_eq_false_iff_ne.2 (by omega)
 clear h4
 go_enter Tryz.func35,Tryz.ntmps35
 go_wp2
 go_ret
 exact ⟨rfl,below2 w _ _⟩
theorem ref_7 (r:Rcd) (hk:r.kind=7) (h2:0≤r.bucket) (h3:r.bucket≤63) (h4:r.gen≠0) (w:World):Calls Tryz.prog 35 #[rv r] w fun e w'=>e = .returned (.bool (decide (r=named r)))∧Below w.heap.size w w':=by
 have heq:=fun w=>rec_equal (named r) r w
 have hql:=fun w=>rec_eql (named r) r w
 have hyy:decide (r=named r)=decide (named r=r):=by rw [Bool.eq_iff_iff,decide_eq_true_iff,decide_eq_true_iff];exact ⟨Eq.symm,Eq.symm⟩
 rw [hyy]
 clear hyy
 generalize decide (named r=r)=y at *
 obtain ⟨k,b,g,q1,q2,q3,s1,s2,ri,se,ke,va,ve,ex⟩:=r
 simp only at hk h2 h3 h4
 subst hk
 have e:named ⟨7,b,g,q1,q2,q3,s1,s2,ri,se,ke,va,ve,ex⟩=⟨7,b,g,0,0,0,0,0,0,0,nothing,nothing,0,0⟩:=rfl
 rw [e] at heq hql
 have z0:((0:Nat):Int)=0:=rfl
 simp only [rv,cells,nothing,z0] at heq hql ⊢
 clear e z0
 have h5:((g:Int) == 0)=false:=beq_eq_false_iff_ne.2 (by omega)
 clear h4
 go_enter Tryz.func35,Tryz.ntmps35
 go_wp2
 go_ret
 exact ⟨rfl,below2 w _ _⟩
theorem ref_3t (r:Rcd) (hk:r.kind=3) (h2:0≤r.bucket) (h3:r.bucket≤63) (h4:r.gen≠0) (hk1:0 < r.key.size) (hk2:r.key.size≤64) (hv:r.val.size≤1000) (w:World):Calls Tryz.prog 35 #[rv r] w fun e w'=>e = .returned (.bool (decide (r=named r)))∧Below w.heap.size w w':=by
 have heq:=fun w=>rec_equal (named r) r w
 have hql:=fun w=>rec_eql (named r) r w
 have hyy:decide (r=named r)=decide (named r=r):=by rw [Bool.eq_iff_iff,decide_eq_true_iff,decide_eq_true_iff];exact ⟨Eq.symm,Eq.symm⟩
 rw [hyy]
 clear hyy
 generalize decide (named r=r)=y at *
 obtain ⟨k,b,g,q1,q2,q3,s1,s2,ri,se,ke,va,ve,ex⟩:=r
 simp only at hk h2 h3 h4
 subst hk
 have e:named ⟨3,b,g,q1,q2,q3,s1,s2,ri,se,ke,va,ve,ex⟩=⟨3,b,g,0,0,0,0,0,0,0,ke,va,ve,ex⟩:=rfl
 rw [e] at heq hql
 have z0:((0:Nat):Int)=0:=rfl
 simp only [rv,cells,nothing,z0] at heq hql ⊢
 clear e z0
 have h5:((g:Int) == 0)=false:=beq_eq_false_iff_ne.2 (by omega)
 clear h4
 have da:decide ((0:Int) < (ke.size:Int))=true:=decide_eq_true (by simp only at *; omega)
 have db:decide ((ke.size:Int)≤64)=true:=decide_eq_true (by simp only at *; omega)
 have dc:decide ((va.size:Int)≤1000)=true:=decide_eq_true (by simp only at *; omega)
 go_enter Tryz.func35,Tryz.ntmps35
 go_wp2
 go_ret
 exact ⟨rfl,below2 w _ _⟩
end Go.Proofs.YtgjofinbdigmcaaGreat.Rec
end
section
namespace Go.Proofs.YtgjofinbdigmcaaGreat.Rec
open Go.Proofs.YtgjofinbdigmcaaGreat.Mem Go.Proofs.YtgjofinbdigmcaaGreat.Pack
open Go.ChangeShapes Go.WideShapes Go.ChangeAt Go.RowKit
theorem ref_3v (r:Rcd) (hk:r.kind=3) (h2:0≤r.bucket) (h3:r.bucket≤63) (h4:r.gen≠0) (hk1:0 < r.key.size) (hk2:r.key.size≤64) (hv:¬ r.val.size≤1000) (w:World):Calls Tryz.prog 35 #[rv r] w fun e w'=>e = .returned (.bool false)∧Below w.heap.size w w':=by
 have heq:=fun w=>rec_equal (named r) r w
 have hql:=fun w=>rec_eql (named r) r w
 have hyy:decide (r=named r)=decide (named r=r):=by rw [Bool.eq_iff_iff,decide_eq_true_iff,decide_eq_true_iff];exact ⟨Eq.symm,Eq.symm⟩
 clear hyy
 generalize decide (named r=r)=y at *
 obtain ⟨k,b,g,q1,q2,q3,s1,s2,ri,se,ke,va,ve,ex⟩:=r
 simp only at hk h2 h3 h4
 subst hk
 have e:named ⟨3,b,g,q1,q2,q3,s1,s2,ri,se,ke,va,ve,ex⟩=⟨3,b,g,0,0,0,0,0,0,0,ke,va,ve,ex⟩:=rfl
 rw [e] at heq hql
 have z0:((0:Nat):Int)=0:=rfl
 simp only [rv,cells,nothing,z0] at heq hql ⊢
 clear e z0
 have h5:((g:Int) == 0)=false:=beq_eq_false_iff_ne.2 (by omega)
 clear h4
 have da:decide ((0:Int) < (ke.size:Int))=true:=decide_eq_true (by simp only at *; omega)
 have db:decide ((ke.size:Int)≤64)=true:=decide_eq_true (by simp only at *; omega)
 have dc:decide ((va.size:Int)≤1000)=false:=decide_eq_false (by simp only at *; omega)
 go_enter Tryz.func35,Tryz.ntmps35
 go_wp2
 go_ret
 exact ⟨rfl,below2 w _ _⟩
theorem ref_3k (r:Rcd) (hk:r.kind=3) (h2:0≤r.bucket) (h3:r.bucket≤63) (h4:r.gen≠0) (hk1:0 < r.key.size) (hk2:¬ r.key.size≤64) (w:World):Calls Tryz.prog 35 #[rv r] w fun e w'=>e = .returned (.bool false)∧Below w.heap.size w w':=by
 have heq:=fun w=>rec_equal (named r) r w
 have hql:=fun w=>rec_eql (named r) r w
 have hyy:decide (r=named r)=decide (named r=r):=by rw [Bool.eq_iff_iff,decide_eq_true_iff,decide_eq_true_iff];exact ⟨Eq.symm,Eq.symm⟩
 clear hyy
 generalize decide (named r=r)=y at *
 obtain ⟨k,b,g,q1,q2,q3,s1,s2,ri,se,ke,va,ve,ex⟩:=r
 simp only at hk h2 h3 h4
 subst hk
 have e:named ⟨3,b,g,q1,q2,q3,s1,s2,ri,se,ke,va,ve,ex⟩=⟨3,b,g,0,0,0,0,0,0,0,ke,va,ve,ex⟩:=rfl
 rw [e] at heq hql
 have z0:((0:Nat):Int)=0:=rfl
 simp only [rv,cells,nothing,z0] at heq hql ⊢
 clear e z0
 have h5:((g:Int) == 0)=false:=beq_eq_false_iff_ne.2 (by omega)
 clear h4
 have da:decide ((0:Int) < (ke.size:Int))=true:=decide_eq_true (by simp only at *; omega)
 have db:decide ((ke.size:Int)≤64)=false:=decide_eq_false (by simp only at *; omega)
 go_enter Tryz.func35,Tryz.ntmps35
 go_wp2
 go_ret
 exact ⟨rfl,below2 w _ _⟩
theorem ref_3n (r:Rcd) (hk:r.kind=3) (h2:0≤r.bucket) (h3:r.bucket≤63) (h4:r.gen≠0) (hk1:¬ 0 < r.key.size) (w:World):Calls Tryz.prog 35 #[rv r] w fun e w'=>e = .returned (.bool false)∧Below w.heap.size w w':=by
 have heq:=fun w=>rec_equal (named r) r w
 have hql:=fun w=>rec_eql (named r) r w
 have hyy:decide (r=named r)=decide (named r=r):=by rw [Bool.eq_iff_iff,decide_eq_true_iff,decide_eq_true_iff];exact ⟨Eq.symm,Eq.symm⟩
 clear hyy
 generalize decide (named r=r)=y at *
 obtain ⟨k,b,g,q1,q2,q3,s1,s2,ri,se,ke,va,ve,ex⟩:=r
 simp only at hk h2 h3 h4
 subst hk
 have e:named ⟨3,b,g,q1,q2,q3,s1,s2,ri,se,ke,va,ve,ex⟩=⟨3,b,g,0,0,0,0,0,0,0,ke,va,ve,ex⟩:=rfl
 rw [e] at heq hql
 have z0:((0:Nat):Int)=0:=rfl
 simp only [rv,cells,nothing,z0] at heq hql ⊢
 clear e z0
 have h5:((g:Int) == 0)=false:=beq_eq_false_iff_ne.2 (by omega)
 clear h4
 have da:decide ((0:Int) < (ke.size:Int))=false:=decide_eq_false (by simp only at *; omega)
 go_enter Tryz.func35,Tryz.ntmps35
 go_wp2
 go_ret
 exact ⟨rfl,below2 w _ _⟩
theorem ref_4t (r:Rcd) (hk:r.kind=4) (h2:0≤r.bucket) (h3:r.bucket≤63) (h4:r.gen≠0) (hk1:0 < r.key.size) (hk2:r.key.size≤64) (w:World):Calls Tryz.prog 35 #[rv r] w fun e w'=>e = .returned (.bool (decide (r=named r)))∧Below w.heap.size w w':=by
 have heq:=fun w=>rec_equal (named r) r w
 have hql:=fun w=>rec_eql (named r) r w
 have hyy:decide (r=named r)=decide (named r=r):=by rw [Bool.eq_iff_iff,decide_eq_true_iff,decide_eq_true_iff];exact ⟨Eq.symm,Eq.symm⟩
 rw [hyy]
 clear hyy
 generalize decide (named r=r)=y at *
 obtain ⟨k,b,g,q1,q2,q3,s1,s2,ri,se,ke,va,ve,ex⟩:=r
 simp only at hk h2 h3 h4
 subst hk
 have e:named ⟨4,b,g,q1,q2,q3,s1,s2,ri,se,ke,va,ve,ex⟩=⟨4,b,g,0,0,0,0,0,0,0,ke,nothing,ve,0⟩:=rfl
 rw [e] at heq hql
 have z0:((0:Nat):Int)=0:=rfl
 simp only [rv,cells,nothing,z0] at heq hql ⊢
 clear e z0
 have h5:((g:Int) == 0)=false:=beq_eq_false_iff_ne.2 (by omega)
 clear h4
 have da:decide ((0:Int) < (ke.size:Int))=true:=decide_eq_true (by simp only at *; omega)
 have db:decide ((ke.size:Int)≤64)=true:=decide_eq_true (by simp only at *; omega)
 go_enter Tryz.func35,Tryz.ntmps35
 go_wp2
 go_ret
 exact ⟨rfl,below2 w _ _⟩
end Go.Proofs.YtgjofinbdigmcaaGreat.Rec
end
section
namespace Go.Proofs.YtgjofinbdigmcaaGreat.Rec
open Go.Proofs.YtgjofinbdigmcaaGreat.Mem Go.Proofs.YtgjofinbdigmcaaGreat.Pack
open Go.ChangeShapes Go.WideShapes Go.ChangeAt Go.RowKit
theorem ref_4k (r:Rcd) (hk:r.kind=4) (h2:0≤r.bucket) (h3:r.bucket≤63) (h4:r.gen≠0) (hk1:0 < r.key.size) (hk2:¬ r.key.size≤64) (w:World):Calls Tryz.prog 35 #[rv r] w fun e w'=>e = .returned (.bool false)∧Below w.heap.size w w':=by
 have heq:=fun w=>rec_equal (named r) r w
 have hql:=fun w=>rec_eql (named r) r w
 have hyy:decide (r=named r)=decide (named r=r):=by rw [Bool.eq_iff_iff,decide_eq_true_iff,decide_eq_true_iff];exact ⟨Eq.symm,Eq.symm⟩
 clear hyy
 generalize decide (named r=r)=y at *
 obtain ⟨k,b,g,q1,q2,q3,s1,s2,ri,se,ke,va,ve,ex⟩:=r
 simp only at hk h2 h3 h4
 subst hk
 have e:named ⟨4,b,g,q1,q2,q3,s1,s2,ri,se,ke,va,ve,ex⟩=⟨4,b,g,0,0,0,0,0,0,0,ke,nothing,ve,0⟩:=rfl
 rw [e] at heq hql
 have z0:((0:Nat):Int)=0:=rfl
 simp only [rv,cells,nothing,z0] at heq hql ⊢
 clear e z0
 have h5:((g:Int) == 0)=false:=beq_eq_false_iff_ne.2 (by omega)
 clear h4
 have da:decide ((0:Int) < (ke.size:Int))=true:=decide_eq_true (by simp only at *; omega)
 have db:decide ((ke.size:Int)≤64)=false:=decide_eq_false (by simp only at *; omega)
 go_enter Tryz.func35,Tryz.ntmps35
 go_wp2
 go_ret
 exact ⟨rfl,below2 w _ _⟩
theorem ref_4n (r:Rcd) (hk:r.kind=4) (h2:0≤r.bucket) (h3:r.bucket≤63) (h4:r.gen≠0) (hk1:¬ 0 < r.key.size) (w:World):Calls Tryz.prog 35 #[rv r] w fun e w'=>e = .returned (.bool false)∧Below w.heap.size w w':=by
 have heq:=fun w=>rec_equal (named r) r w
 have hql:=fun w=>rec_eql (named r) r w
 have hyy:decide (r=named r)=decide (named r=r):=by rw [Bool.eq_iff_iff,decide_eq_true_iff,decide_eq_true_iff];exact ⟨Eq.symm,Eq.symm⟩
 clear hyy
 generalize decide (named r=r)=y at *
 obtain ⟨k,b,g,q1,q2,q3,s1,s2,ri,se,ke,va,ve,ex⟩:=r
 simp only at hk h2 h3 h4
 subst hk
 have e:named ⟨4,b,g,q1,q2,q3,s1,s2,ri,se,ke,va,ve,ex⟩=⟨4,b,g,0,0,0,0,0,0,0,ke,nothing,ve,0⟩:=rfl
 rw [e] at heq hql
 have z0:((0:Nat):Int)=0:=rfl
 simp only [rv,cells,nothing,z0] at heq hql ⊢
 clear e z0
 have h5:((g:Int) == 0)=false:=beq_eq_false_iff_ne.2 (by omega)
 clear h4
 have da:decide ((0:Int) < (ke.size:Int))=false:=decide_eq_false (by simp only at *; omega)
 go_enter Tryz.func35,Tryz.ntmps35
 go_wp2
 go_ret
 exact ⟨rfl,below2 w _ _⟩
theorem ref_5t (r:Rcd) (hk:r.kind=5) (h2:0≤r.bucket) (h3:r.bucket≤63) (h4:r.gen≠0) (hl:0 < r.rights) (hh:r.rights < 8) (w:World):Calls Tryz.prog 35 #[rv r] w fun e w'=>e = .returned (.bool (decide (r=named r)))∧Below w.heap.size w w':=by
 have heq:=fun w=>rec_equal (named r) r w
 have hql:=fun w=>rec_eql (named r) r w
 have hyy:decide (r=named r)=decide (named r=r):=by rw [Bool.eq_iff_iff,decide_eq_true_iff,decide_eq_true_iff];exact ⟨Eq.symm,Eq.symm⟩
 rw [hyy]
 clear hyy
 generalize decide (named r=r)=y at *
 obtain ⟨k,b,g,q1,q2,q3,s1,s2,ri,se,ke,va,ve,ex⟩:=r
 simp only at hk h2 h3 h4
 subst hk
 have e:named ⟨5,b,g,q1,q2,q3,s1,s2,ri,se,ke,va,ve,ex⟩=⟨5,b,g,0,0,0,0,s2,ri,se,nothing,nothing,0,0⟩:=rfl
 rw [e] at heq hql
 have z0:((0:Nat):Int)=0:=rfl
 simp only [rv,cells,nothing,z0] at heq hql ⊢
 clear e z0
 have h5:((g:Int) == 0)=false:=beq_eq_false_iff_ne.2 (by omega)
 clear h4
 have da:decide ((0:Int) < ri)=true:=decide_eq_true (by simp only at *; omega)
 have db:decide (ri < 8)=true:=decide_eq_true (by simp only at *; omega)
 go_enter Tryz.func35,Tryz.ntmps35
 go_wp2
 go_ret
 exact ⟨rfl,below2 w _ _⟩
theorem ref_5h (r:Rcd) (hk:r.kind=5) (h2:0≤r.bucket) (h3:r.bucket≤63) (h4:r.gen≠0) (hl:0 < r.rights) (hh:¬ r.rights < 8) (w:World):Calls Tryz.prog 35 #[rv r] w fun e w'=>e = .returned (.bool false)∧Below w.heap.size w w':=by
 have heq:=fun w=>rec_equal (named r) r w
 have hql:=fun w=>rec_eql (named r) r w
 have hyy:decide (r=named r)=decide (named r=r):=by rw [Bool.eq_iff_iff,decide_eq_true_iff,decide_eq_true_iff];exact ⟨Eq.symm,Eq.symm⟩
 clear hyy
 generalize decide (named r=r)=y at *
 obtain ⟨k,b,g,q1,q2,q3,s1,s2,ri,se,ke,va,ve,ex⟩:=r
 simp only at hk h2 h3 h4
 subst hk
 have e:named ⟨5,b,g,q1,q2,q3,s1,s2,ri,se,ke,va,ve,ex⟩=⟨5,b,g,0,0,0,0,s2,ri,se,nothing,nothing,0,0⟩:=rfl
 rw [e] at heq hql
 have z0:((0:Nat):Int)=0:=rfl
 simp only [rv,cells,nothing,z0] at heq hql ⊢
 clear e z0
 have h5:((g:Int) == 0)=false:=beq_eq_false_iff_ne.2 (by omega)
 clear h4
 have da:decide ((0:Int) < ri)=true:=decide_eq_true (by simp only at *; omega)
 have db:decide (ri < 8)=false:=decide_eq_false (by simp only at *; omega)
 go_enter Tryz.func35,Tryz.ntmps35
 go_wp2
 go_ret
 exact ⟨rfl,below2 w _ _⟩
theorem ref_5l (r:Rcd) (hk:r.kind=5) (h2:0≤r.bucket) (h3:r.bucket≤63) (h4:r.gen≠0) (hl:¬ 0 < r.rights) (w:World):Calls Tryz.prog 35 #[rv r] w fun e w'=>e = .returned (.bool false)∧Below w.heap.size w w':=by
 have heq:=fun w=>rec_equal (named r) r w
 have hql:=fun w=>rec_eql (named r) r w
 have hyy:decide (r=named r)=decide (named r=r):=by rw [Bool.eq_iff_iff,decide_eq_true_iff,decide_eq_true_iff];exact ⟨Eq.symm,Eq.symm⟩
 clear hyy
 generalize decide (named r=r)=y at *
 obtain ⟨k,b,g,q1,q2,q3,s1,s2,ri,se,ke,va,ve,ex⟩:=r
 simp only at hk h2 h3 h4
 subst hk
 have e:named ⟨5,b,g,q1,q2,q3,s1,s2,ri,se,ke,va,ve,ex⟩=⟨5,b,g,0,0,0,0,s2,ri,se,nothing,nothing,0,0⟩:=rfl
 rw [e] at heq hql
 have z0:((0:Nat):Int)=0:=rfl
 simp only [rv,cells,nothing,z0] at heq hql ⊢
 clear e z0
 have h5:((g:Int) == 0)=false:=beq_eq_false_iff_ne.2 (by omega)
 clear h4
 have da:decide ((0:Int) < ri)=false:=decide_eq_false (by simp only at *; omega)
 go_enter Tryz.func35,Tryz.ntmps35
 go_wp2
 go_ret
 exact ⟨rfl,below2 w _ _⟩
end Go.Proofs.YtgjofinbdigmcaaGreat.Rec
end
section
namespace Go.Proofs.YtgjofinbdigmcaaGreat.Rec
open Go.Proofs.YtgjofinbdigmcaaGreat.Mem Go.Proofs.YtgjofinbdigmcaaGreat.Pack
open Go.ChangeShapes Go.WideShapes Go.ChangeAt Go.RowKit
theorem refMay_any (r:Rcd) (w:World):Calls Tryz.prog 35 #[rv r] w fun e w'=>e = .returned (.bool (decide (May r)))∧Below w.heap.size w w':=by
 by_cases h0:1≤r.kind
 rotate_left
 ·rw [decide_eq_false (fun h:May r=>h0 h.1)]
  exact ref_low_kind r (by omega) w
 by_cases h1:r.kind≤7
 rotate_left
 ·rw [decide_eq_false (fun h:May r=>h1 h.2.1)]
  exact ref_high_kind r h0 (by omega) w
 by_cases h2:0≤r.bucket
 rotate_left
 ·rw [decide_eq_false (fun h:May r=>h2 h.2.2.1)]
  exact ref_low r h0 h1 (by omega) w
 by_cases h3:r.bucket≤63
 rotate_left
 ·rw [decide_eq_false (fun h:May r=>h3 (by have:=h.2.2.2.1;omega))]
  exact ref_high r h0 h1 h2 (by omega) w
 by_cases h4:r.gen=0
 ·rw [decide_eq_false (fun h:May r=>absurd h.2.2.2.2.1 (by omega))]
  exact ref_gen r h0 h1 h2 h3 h4 w
 have e:decide (May r)=(decide (fits r) && decide (r=named r)):=by
  rw [Bool.eq_iff_iff,Bool.and_eq_true,decide_eq_true_iff,decide_eq_true_iff,decide_eq_true_iff]
  exact ⟨fun h=>⟨h.2.2.2.2.2.2,h.2.2.2.2.2.1⟩,fun h=>⟨h0,h1,h2,by omega,by omega,h.2,h.1⟩⟩
 rw [e]
 clear e
 have yes:fits r→(decide (fits r) && decide (r=named r))=decide (r=named r):=fun h=>by rw [decide_eq_true h,Bool.true_and]
 have no:¬ fits r→(decide (fits r) && decide (r=named r))=false:=fun h=>by rw [decide_eq_false h,Bool.false_and]
 have hk:r.kind=1∨r.kind=2∨r.kind=3∨r.kind=4∨r.kind=5∨r.kind=6∨r.kind=7:=by omega
 have n31:¬ (3:Int)=1:=by decide
 have n41:¬ (4:Int)=1:=by decide
 have n43:¬ (4:Int)=3:=by decide
 have n51:¬ (5:Int)=1:=by decide
 have n53:¬ (5:Int)=3:=by decide
 have n54:¬ (5:Int)=4:=by decide
 rcases hk with hk|hk|hk|hk|hk|hk|hk
 ·have ef:fits r ↔ (inQ r.keys∧inQ r.bytes∧inQ r.budget):=by unfold fits;rw [if_pos hk]
  by_cases hq:inQ r.keys∧inQ r.bytes∧inQ r.budget
  ·rw [yes (ef.2 hq)];exact ref_1t r hk h2 h3 h4 hq w
  ·rw [no (fun h=>hq (ef.1 h))];exact ref_1f r hk h2 h3 h4 hq w
 ·rw [yes (by unfold fits;rw [hk];simp)];exact ref_2 r hk h2 h3 h4 w
 ·have ef:fits r ↔ (1≤r.key.size∧r.key.size≤64)∧r.val.size≤1000:=by unfold fits keyMay;rw [hk,if_neg n31,if_pos rfl]
  by_cases hk1:0 < r.key.size
  ·by_cases hk2:r.key.size≤64
   ·by_cases hv:r.val.size≤1000
    ·rw [yes (ef.2 ⟨⟨hk1,hk2⟩,hv⟩)];exact ref_3t r hk h2 h3 h4 hk1 hk2 hv w
    ·rw [no (fun h=>hv (ef.1 h).2)];exact ref_3v r hk h2 h3 h4 hk1 hk2 hv w
   ·rw [no (fun h=>hk2 (ef.1 h).1.2)];exact ref_3k r hk h2 h3 h4 hk1 hk2 w
  ·rw [no (fun h=>hk1 (ef.1 h).1.1)];exact ref_3n r hk h2 h3 h4 hk1 w
 ·have ef:fits r ↔ 1≤r.key.size∧r.key.size≤64:=by unfold fits keyMay;rw [hk,if_neg n41,if_neg n43,if_pos rfl]
  by_cases hk1:0 < r.key.size
  ·by_cases hk2:r.key.size≤64
   ·rw [yes (ef.2 ⟨hk1,hk2⟩)];exact ref_4t r hk h2 h3 h4 hk1 hk2 w
   ·rw [no (fun h=>hk2 (ef.1 h).2)];exact ref_4k r hk h2 h3 h4 hk1 hk2 w
  ·rw [no (fun h=>hk1 (ef.1 h).1)];exact ref_4n r hk h2 h3 h4 hk1 w
 ·have ef:fits r ↔ 1≤r.rights∧r.rights≤7:=by unfold fits;rw [hk,if_neg n51,if_neg n53,if_neg n54,if_pos rfl]
  by_cases hl:0 < r.rights
  ·by_cases hh:r.rights < 8
   ·rw [yes (ef.2 ⟨by omega,by omega⟩)];exact ref_5t r hk h2 h3 h4 hl hh w
   ·rw [no (fun h=>hh (by have:=(ef.1 h).2;omega))];exact ref_5h r hk h2 h3 h4 hl hh w
  ·rw [no (fun h=>hl (by have:=(ef.1 h).1;omega))];exact ref_5l r hk h2 h3 h4 hl w
 ·rw [yes (by unfold fits;rw [hk];simp)];exact ref_6 r hk h2 h3 h4 w
 ·rw [yes (by unfold fits;rw [hk];simp)];exact ref_7 r hk h2 h3 h4 w
end Go.Proofs.YtgjofinbdigmcaaGreat.Rec
end
