/- The document's Do: words, and the errors that it tells ahead of an effect. MADE BY gen-do.py -/
import Derived.Test.YtiaaadeenbjciaaRefMove
import Derived.Test.YtiaaadeenbjciaaRefEffect
import Derived.Test.YtiaaadeenbjciaaDiskCut
import Derived.IntWalk
namespace Go.Proofs.Ytiaaadeenbjciaa.Disk
open Go.Proofs.Ytiaaadeenbjciaa Go.Proofs.Ytiaaadeenbjciaa.Mem
open Go.ChangeShapes Go.WideShapes Go.ChangeAt Go.RowKit
open Go.Proofs (encStr)
set_option linter.unusedVariables false
set_option linter.unusedSimpArgs false
section
variable {w w' : World} {rp : Nat} {S : St} {lv : Value} {rs : List (Nm × REnt)} {pl : Bool} {lf kp : Int} {G : Nat → Prop}
/- What Do says: the error's number, and what becomes of the disk. -/
def DoSays (w : World) (rp : Nat) (G : Nat → Prop) (r : Int × St) (x : Ending) (w' : World) : Prop := x = .returned (.int .i64 r.1) ∧ RHas w' rp r.2 (grow G w w') ∧ But G w w'
theorem RAt.drewN (h : RAt w rp S lv rs pl lf kp) (n : Nat) : RAt (w.drewN n) rp S lv rs pl lf kp := h.but (T := fun _ => False) ((But.refl _ w).drewN n) (fun _ _ h => h)
theorem quiet_eq {P : Program} {f : FuncId} {args : Array Value} {w : World} {n : Nat} {v : Value} (h : Calls P f args (w.drewN n) fun e w' => e = .returned v ∧ w.drewN n = w') : Calls P f args (w.drewN n) fun e w'' => e = .returned v ∧ ∃ m, w'' = w.drewN m :=
  h.mono fun _ _ h => ⟨h.1, n, h.2.symm⟩
theorem rhas_drewN (h : RAt w rp S lv rs pl lf kp) (hF : ∀ k, rfoot rp lv rs k → G k) (hlt : ∀ k, G k → k < w.heap.size) (n : Nat) : RHas (w.drewN n) rp S (grow G w (w.drewN n)) ∧ But G w (w.drewN n) :=
  have hb : But G w (w.drewN n) := (But.refl _ w).drewN n
  ⟨(h.drewN n).hasGrow hb hlt (fun k hk => .inl (hF k hk)), hb⟩
set_option maxRecDepth 100000 in
set_option maxHeartbeats 4000000 in
theorem do_down (h : RAt w rp S lv rs pl lf kp) (hd : S.down = true) (what m : Int) (s t : ByteArray) (a : Option Addr) (len cap : Nat) :
    Calls Try.prog 22 #[.pointer (some ⟨rp, 0, none⟩), .int .i64 what, .string s, .string t, .slice a len cap, .int .i64 m] w fun x w' => x = .returned (.int .i64 15) ∧ w = w' := by
  have c6 : w.cell? ⟨rp, 6, none⟩ = some (.bool S.down) := h.blk.cell 6
  rw [hd] at c6
  clear h hd
  go_enter Try.func22, Try.ntmps22
  go_wp2_with fail
  go_ret
  exact ⟨rfl, rfl⟩
set_option maxRecDepth 100000 in
set_option maxHeartbeats 4000000 in
theorem do_twice (h : RAt w rp S lv rs pl lf kp) (hn : rs.length ≤ 1000000) (hd : S.down = false) (m : Int) (s t : ByteArray) (a : Option Addr) (len cap : Nat) {e : REnt} (hl : look s.data.toList rs = some e) :
    Calls Try.prog 22 #[.pointer (some ⟨rp, 0, none⟩), .int .i64 0, .string s, .string t, .slice a len cap, .int .i64 m] w fun x w' => x = .returned (.int .i64 6) ∧ But (fun _ => False) w w' := by
  have c6 : w.cell? ⟨rp, 6, none⟩ = some (.bool S.down) := h.blk.cell 6
  rw [hd] at c6
  have hf := rfind_at h hn s
  rw [hl] at hf
  have HF := Lib.hid hf
  have HH := Lib.hid h
  clear h hn hl hd
  go_enter Try.func22, Try.ntmps22
  go_wp2_with fail
  refine HF.out.mono ?_
  rintro x w' ⟨rfl, nd, rfl⟩
  have hbW : But (fun _ => False) w (w.drewN nd) := (But.refl _ w).drewN nd
  have hA := HH.out.drewN nd
  generalize w.drewN nd = W at hA hbW ⊢
  clear HF HH
  go_wp2_with fail
  go_ret
  exact ⟨rfl, hbW⟩
set_option maxRecDepth 100000 in
set_option maxHeartbeats 4000000 in
theorem do_none (h : RAt w rp S lv rs pl lf kp) (hn : rs.length ≤ 1000000) (hd : S.down = false) (what m : Int) (s t : ByteArray) (a : Option Addr) (len cap : Nat) (hl : look s.data.toList rs = none) (hw : what ≠ 0) :
    Calls Try.prog 22 #[.pointer (some ⟨rp, 0, none⟩), .int .i64 what, .string s, .string t, .slice a len cap, .int .i64 m] w fun x w' => x = .returned (.int .i64 5) ∧ But (fun _ => False) w w' := by
  have hw0 : (what == 0) = false := beq_eq_false_iff_ne.2 hw
  have hw1 : (what != 0) = true := by simpa using hw
  have c6 : w.cell? ⟨rp, 6, none⟩ = some (.bool S.down) := h.blk.cell 6
  rw [hd] at c6
  have hf := rfind_at h hn s
  rw [hl] at hf
  have HF := Lib.hid hf
  have HH := Lib.hid h
  clear h hn hl hd hw
  go_enter Try.func22, Try.ntmps22
  go_wp2_with fail
  refine HF.out.mono ?_
  rintro x w' ⟨rfl, nd, rfl⟩
  have hbW : But (fun _ => False) w (w.drewN nd) := (But.refl _ w).drewN nd
  have hA := HH.out.drewN nd
  generalize w.drewN nd = W at hA hbW ⊢
  clear HF HH
  go_wp2_with fail
  go_ret
  exact ⟨rfl, hbW⟩
set_option maxRecDepth 100000 in
set_option maxHeartbeats 4000000 in
theorem do_full0 (h : RAt w rp S lv rs pl lf kp) (hn : rs.length ≤ 1000000) (hd : S.down = false) (m : Int) (s t : ByteArray) (a : Option Addr) (len cap : Nat) (hl : look s.data.toList rs = none) (hf : 1000 ≤ rs.length) :
    Calls Try.prog 22 #[.pointer (some ⟨rp, 0, none⟩), .int .i64 0, .string s, .string t, .slice a len cap, .int .i64 m] w fun x w' => x = .returned (.int .i64 12) ∧ But (fun _ => False) w w' := by
  have t1 : decide (1000 ≤ (rs.length : Int)) = true := by simp; omega
  have c6 : w.cell? ⟨rp, 6, none⟩ = some (.bool S.down) := h.blk.cell 6
  rw [hd] at c6
  have hf := rfind_at h hn s
  rw [hl] at hf
  have HF := Lib.hid hf
  have HH := Lib.hid h
  clear h hn hl hd hf
  go_enter Try.func22, Try.ntmps22
  go_wp2_with fail
  refine HF.out.mono ?_
  rintro x w' ⟨rfl, nd, rfl⟩
  have hbW : But (fun _ => False) w (w.drewN nd) := (But.refl _ w).drewN nd
  have hA := HH.out.drewN nd
  generalize w.drewN nd = W at hA hbW ⊢
  clear HF HH
  obtain ⟨al, cl, rfl, hlc, hcm, hcells⟩ := hA.shape
  have c1 := fun n => show (W.drewN n).cell? ⟨rp, 1, none⟩ = some (.slice al rs.length cl) from (hA.drewN n).blk.cell 1
  have c0 := fun n => show (W.drewN n).cell? ⟨rp, 0, none⟩ = some (.int .i64 S.cap) from (hA.drewN n).blk.cell 0
  have HA := Lib.hid hA
  clear hA hlc hcm hcells
  go_wp2_with fail
  go_quiet (fail)
  go_wp2_with fail
  go_ret
  exact ⟨rfl, hbW.drewN _⟩
set_option maxRecDepth 100000 in
set_option maxHeartbeats 4000000 in
theorem do_full1 (h : RAt w rp S lv rs pl lf kp) (hn : rs.length ≤ 1000000) (hd : S.down = false) (m : Int) (s t : ByteArray) (a : Option Addr) (len cap : Nat) {e : REnt} (hl : look s.data.toList rs = some e) (hu : used S + len ≤ 1000000000) (hf : S.cap < ((used S + len : Nat) : Int)) :
    Calls Try.prog 22 #[.pointer (some ⟨rp, 0, none⟩), .int .i64 1, .string s, .string t, .slice a len cap, .int .i64 m] w fun x w' => x = .returned (.int .i64 12) ∧ But (fun _ => False) w w' := by
  have t1 : decide (S.cap < (used S : Int) + (len : Int)) = true := by simp; omega
  have HU := Lib.hid (show used S ≤ 1000000000 by omega)
  have HN := Lib.hid hn
  have q1 : IntKind.i64.wrap ((used S : Int) + (len : Int)) = (used S : Int) + (len : Int) := IntWalk.i64_in _ (by omega)
  have c6 : w.cell? ⟨rp, 6, none⟩ = some (.bool S.down) := h.blk.cell 6
  rw [hd] at c6
  have hf := rfind_at h hn s
  rw [hl] at hf
  have HF := Lib.hid hf
  have HH := Lib.hid h
  clear h hn hl hd hf hu
  go_enter Try.func22, Try.ntmps22
  go_wp2_with fail
  refine HF.out.mono ?_
  rintro x w' ⟨rfl, nd, rfl⟩
  have hbW : But (fun _ => False) w (w.drewN nd) := (But.refl _ w).drewN nd
  have hA := HH.out.drewN nd
  generalize w.drewN nd = W at hA hbW ⊢
  clear HF HH
  obtain ⟨al, cl, rfl, hlc, hcm, hcells⟩ := hA.shape
  have c1 := fun n => show (W.drewN n).cell? ⟨rp, 1, none⟩ = some (.slice al rs.length cl) from (hA.drewN n).blk.cell 1
  have c0 := fun n => show (W.drewN n).cell? ⟨rp, 0, none⟩ = some (.int .i64 S.cap) from (hA.drewN n).blk.cell 0
  have HA := Lib.hid hA
  clear hA hlc hcm hcells
  go_wp2_with fail
  go_quiet ((go_at_call 34; exact quiet_eq (rused_at (HA.out.drewN _) HU.out HN.out)))
  go_wp2_with fail
  go_ret
  exact ⟨rfl, hbW.drewN _⟩
end
end Go.Proofs.Ytiaaadeenbjciaa.Disk
