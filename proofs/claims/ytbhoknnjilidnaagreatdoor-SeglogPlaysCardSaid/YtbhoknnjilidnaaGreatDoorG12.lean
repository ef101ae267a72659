/- Whether a record may be as the document says: the walks of the reference's May. Whether a record may be as the document says: the walks of the reference's May. -/
import Derived.Test.YtbhoknnjilidnaaGreatDoorG05
import Derived.Test.YtbhoknnjilidnaaGreatDoorG09
set_option linter.unusedSimpArgs false
set_option linter.unusedVariables false
set_option maxHeartbeats 2000000
set_option maxRecDepth 100000
section
namespace Go.Proofs.YtbhoknnjilidnaaGreatDoor.Rec
open Go.Proofs.YtbhoknnjilidnaaGreatDoor.Mem Go.Proofs.YtbhoknnjilidnaaGreatDoor.Pack
open Go.ChangeShapes Go.WideShapes Go.ChangeAt Go.RowKit
theorem in_yes (n:Int) (h:inQ n) (w:World):Calls Tryz.prog 109 #[.int .i64 n] w fun e w'=>e = .returned (.bool true)∧w=w':=by
 obtain ⟨h1,h2⟩:=h
 have d2:decide (n≤1099511627776)=true:=decide_eq_true h2
 go_enter Tryz.func109,Tryz.ntmps109
 go_wp2
 go_ret
 exact ⟨rfl,rfl⟩
theorem in_no (n:Int) (h:¬ inQ n) (w:World):Calls Tryz.prog 109 #[.int .i64 n] w fun e w'=>e = .returned (.bool false)∧w=w':=by
 by_cases h1:0≤n
 ·have h2:¬ n≤1099511627776:=fun e=>h ⟨h1,e⟩
  have d2:decide (n≤1099511627776)=false:=decide_eq_false h2
  clear h
  go_enter Tryz.func109,Tryz.ntmps109
  go_wp2
  go_ret
  exact ⟨rfl,rfl⟩
 ·have d1:decide (0≤n)=false:=decide_eq_false h1
  clear h
  go_enter Tryz.func109,Tryz.ntmps109
  go_wp2
  go_ret
  exact ⟨rfl,rfl⟩
theorem in_any (n:Int) (w:World):Calls Tryz.prog 109 #[.int .i64 n] w fun e w'=>e = .returned (.bool (decide (inQ n)))∧w=w':=by
 by_cases h:inQ n
 ·rw [decide_eq_true h];exact in_yes n h w
 ·rw [decide_eq_false h];exact in_no n h w
theorem refQuota_any (q1 q2 q3:Int) (w:World):Calls Tryz.prog 88 #[.agg #[.int .i64 q1,.int .i64 q2,.int .i64 q3]] w fun e w'=>e = .returned (.bool (decide (inQ q1∧inQ q2∧inQ q3)))∧w'=w.alloc (.cells #[.int .i64 q1,.int .i64 q2,.int .i64 q3] 76):=by
 have k1:=fun w=>in_any q1 w
 have k2:=fun w=>in_any q2 w
 have k3:=fun w=>in_any q3 w
 have e:decide (inQ q1∧inQ q2∧inQ q3)=(decide (inQ q1) && (decide (inQ q2) && decide (inQ q3))):=by simp
 rw [e]
 clear e
 generalize decide (inQ q1)=b1 at *
 generalize decide (inQ q2)=b2 at *
 generalize decide (inQ q3)=b3 at *
 cases b1 <;> cases b2 <;> cases b3 <;>
  (go_enter Tryz.func88,Tryz.ntmps88
   go_wp2_with fail
   refine (k1 _).mono ?_
   rintro e w1 ⟨rfl,rfl⟩
   go_wp2_with fail
   refine (k2 _).mono ?_
   rintro e w1 ⟨rfl,rfl⟩
   go_wp2_with fail
   refine (k3 _).mono ?_
   rintro e w1 ⟨rfl,rfl⟩
   go_wp2_with fail
   go_ret
   exact ⟨rfl,rfl⟩)
theorem below2 (w:World) (A B:Obj):Below w.heap.size w ((w.alloc A).alloc B):=((Below.refl _ w).alloc (Nat.le_refl _) A).alloc (by simp) B
end Go.Proofs.YtbhoknnjilidnaaGreatDoor.Rec
end
section
namespace Go.Proofs.YtbhoknnjilidnaaGreatDoor.Rec
open Go.Proofs.YtbhoknnjilidnaaGreatDoor.Mem Go.Proofs.YtbhoknnjilidnaaGreatDoor.Pack
open Go.ChangeShapes Go.WideShapes Go.ChangeAt Go.RowKit
theorem ref_low_kind (r:Rcd) (h0:r.kind < 1) (w:World):Calls Tryz.prog 57 #[rv r] w fun e w'=>e = .returned (.bool false)∧Below w.heap.size w w':=by
 obtain ⟨k,b,g,q1,q2,q3,s1,s2,ri,se,ke,va,ve,ex⟩:=r
 simp only [rv,cells]
 simp only at h0
 go_enter Tryz.func57,Tryz.ntmps57
 go_wp2
 go_ret
 exact ⟨rfl,(Below.refl _ w).alloc (Nat.le_refl _) _⟩
theorem ref_high_kind (r:Rcd) (h0:1≤r.kind) (h1:7 < r.kind) (w:World):Calls Tryz.prog 57 #[rv r] w fun e w'=>e = .returned (.bool false)∧Below w.heap.size w w':=by
 obtain ⟨k,b,g,q1,q2,q3,s1,s2,ri,se,ke,va,ve,ex⟩:=r
 simp only [rv,cells]
 simp only at h0 h1
 go_enter Tryz.func57,Tryz.ntmps57
 go_wp2
 go_ret
 exact ⟨rfl,(Below.refl _ w).alloc (Nat.le_refl _) _⟩
theorem ref_low (r:Rcd) (h0:1≤r.kind) (h1:r.kind≤7) (h2:r.bucket < 0) (w:World):Calls Tryz.prog 57 #[rv r] w fun e w'=>e = .returned (.bool false)∧Below w.heap.size w w':=by
 obtain ⟨k,b,g,q1,q2,q3,s1,s2,ri,se,ke,va,ve,ex⟩:=r
 simp only [rv,cells]
 simp only at h0 h1 h2
 go_enter Tryz.func57,Tryz.ntmps57
 go_wp2
 go_ret
 exact ⟨rfl,(Below.refl _ w).alloc (Nat.le_refl _) _⟩
theorem ref_high (r:Rcd) (h0:1≤r.kind) (h1:r.kind≤7) (h2:0≤r.bucket) (h3:63 < r.bucket) (w:World):Calls Tryz.prog 57 #[rv r] w fun e w'=>e = .returned (.bool false)∧Below w.heap.size w w':=by
 obtain ⟨k,b,g,q1,q2,q3,s1,s2,ri,se,ke,va,ve,ex⟩:=r
 simp only [rv,cells]
 simp only at h0 h1 h2 h3
 go_enter Tryz.func57,Tryz.ntmps57
 go_wp2
 go_ret
 exact ⟨rfl,(Below.refl _ w).alloc (Nat.le_refl _) _⟩
theorem ref_gen (r:Rcd) (h0:1≤r.kind) (h1:r.kind≤7) (h2:0≤r.bucket) (h3:r.bucket≤63) (h4:r.gen=0) (w:World):Calls Tryz.prog 57 #[rv r] w fun e w'=>e = .returned (.bool false)∧Below w.heap.size w w':=by
 obtain ⟨k,b,g,q1,q2,q3,s1,s2,ri,se,ke,va,ve,ex⟩:=r
 simp only [rv,cells]
 simp only at h0 h1 h2 h3 h4
 subst h4
 go_enter Tryz.func57,Tryz.ntmps57
 go_wp2
 go_ret
 exact ⟨rfl,(Below.refl _ w).alloc (Nat.le_refl _) _⟩
theorem ref_1t (r:Rcd) (hk:r.kind=1) (h2:0≤r.bucket) (h3:r.bucket≤63) (h4:r.gen≠0) (hq:inQ r.keys∧inQ r.bytes∧inQ r.budget) (w:World):Calls Tryz.prog 57 #[rv r] w fun e w'=>e = .returned (.bool (decide (r=named r)))∧Below w.heap.size w w':=by
 have heq:=fun w=>rec_equal (named r) r w
 have hql:=fun w=>rec_eql (named r) r w
 have hyy:decide (r=named r)=decide (named r=r):=by rw [Bool.eq_iff_iff,decide_eq_true_iff,decide_eq_true_iff];exact ⟨Eq.symm,Eq.symm⟩
 rw [hyy]
 clear hyy
 generalize decide (named r=r)=y at *
 obtain ⟨k,b,g,q1,q2,q3,s1,s2,ri,se,ke,va,ve,ex⟩:=r
 simp only at hk h2 h3 h4
 subst hk
 have e:named ⟨1,b,g,q1,q2,q3,s1,s2,ri,se,ke,va,ve,ex⟩=⟨1,b,g,q1,q2,q3,s1,s2,0,0,nothing,nothing,0,0⟩:=rfl
 rw [e] at heq hql
 have z0:((0:Nat):Int)=0:=rfl
 simp only [rv,cells,nothing,z0] at heq hql ⊢
 clear e z0
 have h5:((g:Int) == 0)=false:=beq_eq_false_iff_ne.2 (by omega)
 clear h4
 have HQ:=Lib.hid (decide_eq_true hq)
 clear hq
 go_enter Tryz.func57,Tryz.ntmps57
 go_wp2_with fail
 refine (refQuota_any q1 q2 q3 _).mono ?_
 rintro e w1 ⟨rfl,rfl⟩
 rw [HQ.out]
 go_wp2_with fail
 go_ret
 exact ⟨rfl,below3 w _ _ _⟩
end Go.Proofs.YtbhoknnjilidnaaGreatDoor.Rec
end
