/- Contracts of the program's table's calls that only look: home, next, steps, isTight, find. -/
import Derived.Test.YtabclecfamkanaaDoorKeyAt
namespace Go.Proofs.YtabclecfamkanaaDoor.Key
open Go.Proofs.YtabclecfamkanaaDoor.Mem Go.Proofs.YtabclecfamkanaaDoor.Fnv
open Go.ChangeShapes Go.WideShapes Go.ChangeAt Go.RowKit
set_option linter.unusedVariables false
set_option linter.unusedSimpArgs false
section
variable {w : World} {p g i kn : Nat} {T : Tab}
theorem home_nat {n : Nat} (s : ByteArray) : homeOf s (n : Int) = ((hm n s : Nat) : Int) := (Int.natCast_emod _ _).symm
set_option maxRecDepth 100000 in
set_option maxHeartbeats 400000 in
theorem khome_any (h : KAt w p g T i kn) (s : ByteArray) (hs : s.size ≤ 100) :
    Calls Tryd.prog 31 #[.pointer (some ⟨p, 0, none⟩), .string s] w fun e w' => e = .returned (.int .i64 ((hm T.length s : Nat) : Int)) ∧ w = w' := by
  have c0 : w.cell? ⟨p, 0, none⟩ = some (.slice (some ⟨g, 0, none⟩) T.length T.length) := h.blk.cell 0
  have hp := h.good.pow30 (by have := h.few; omega)
  have hc := home_yes s (by omega) hp w
  rw [home_nat] at hc
  obtain ⟨l1, l2⟩ := h.lt
  have HC := Lib.hid hc
  clear hc hp h hs
  generalize T.length = n at *
  generalize hm n s = m at *
  go_enter Tryd.func31, Tryd.ntmps31
  go_wp2_with fail
  refine HC.out.mono ?_
  rintro e w' ⟨rfl, rfl⟩
  clear HC
  go_wp2_with fail
  go_ret
  exact ⟨rfl, rfl⟩
set_option maxRecDepth 100000 in
set_option maxHeartbeats 400000 in
theorem knext_any (h : KAt w p g T i kn) (x : Nat) (hx : x ≤ 100000) :
    Calls Tryd.prog 32 #[.pointer (some ⟨p, 0, none⟩), .int .i64 (x : Int)] w fun e w' => e = .returned (.int .i64 (((x + 1) % T.length : Nat) : Int)) ∧ w = w' := by
  have c0 : w.cell? ⟨p, 0, none⟩ = some (.slice (some ⟨g, 0, none⟩) T.length T.length) := h.blk.cell 0
  obtain ⟨l1, l2⟩ := h.lt
  have hc := wrap_any (u := .bool true) c0 (by omega) (x + 1) (by omega)
  obtain ⟨m, hm⟩ : ∃ m, m = (x + 1) % T.length := ⟨_, rfl⟩
  rw [← hm] at hc ⊢
  have HC := Lib.hid hc
  clear h hc hm
  generalize T.length = n at *
  go_enter Tryd.func32, Tryd.ntmps32
  go_wp2_with fail
  refine HC.out.mono ?_
  rintro e w' ⟨rfl, rfl⟩
  clear HC
  go_wp2_with fail
  go_ret
  exact ⟨rfl, rfl⟩
set_option maxRecDepth 100000 in
set_option maxHeartbeats 400000 in
theorem ksteps_any (h : KAt w p g T i kn) (x y : Nat) (hx : x < T.length) (hy : y < T.length) :
    Calls Tryd.prog 33 #[.pointer (some ⟨p, 0, none⟩), .int .i64 (x : Int), .int .i64 (y : Int)] w fun e w' => e = .returned (.int .i64 (((y + T.length - x) % T.length : Nat) : Int)) ∧ w = w' := by
  have c0 : w.cell? ⟨p, 0, none⟩ = some (.slice (some ⟨g, 0, none⟩) T.length T.length) := h.blk.cell 0
  obtain ⟨l1, l2⟩ := h.lt
  have hc := wrap_any (u := .bool true) c0 (by omega) (y + T.length - x) (by omega)
  obtain ⟨m, hm⟩ : ∃ m, m = (y + T.length - x) % T.length := ⟨_, rfl⟩
  rw [← hm] at hc ⊢
  clear h hm
  generalize T.length = n at *
  obtain ⟨Z, hZ⟩ : ∃ Z, Z = y + n - x := ⟨_, rfl⟩
  rw [← hZ] at hc
  have HC := Lib.hid hc
  clear hc
  have hz : (y : Int) - (x : Int) + (n : Int) = (Z : Int) := by omega
  have hz1 : (y : Int) - (x : Int) = (Z : Int) - (n : Int) := by omega
  clear hZ
  go_enter Tryd.func33, Tryd.ntmps33
  go_wp2_with fail
  refine HC.out.mono ?_
  rintro e w' ⟨rfl, rfl⟩
  clear HC
  go_wp2_with fail
  go_ret
  exact ⟨rfl, rfl⟩
set_option maxRecDepth 100000 in
set_option maxHeartbeats 400000 in
theorem ktight_any (h : KAt w p g T i (cnt T)) :
    Calls Tryd.prog 24 #[.pointer (some ⟨p, 0, none⟩)] w fun e w' => e = .returned (.bool (decide (tight T))) ∧ ∃ n, w' = w.drewN n := by
  have c0 := fun n => show (w.drewN n).cell? ⟨p, 0, none⟩ = some (.slice (some ⟨g, 0, none⟩) T.length T.length) from h.blk.cell 0
  have c1 := fun n => show (w.drewN n).cell? ⟨p, 1, none⟩ = some (.int .i64 (cnt T : Int)) from h.blk.cell 1
  obtain ⟨l1, l2⟩ := h.lt
  have hc := cnt_le T
  have hd : decide (tight T) = decide (3 * (T.length : Int) < 4 * ((cnt T : Int) + 1)) := by
    unfold tight
    exact decide_eq_decide.2 ⟨fun _ => by omega, fun _ => by omega⟩
  rw [hd]
  clear h hd
  generalize T.length = n at *
  generalize cnt T = m at *
  obtain ⟨d, hd⟩ : ∃ d, d = decide (3 * (n : Int) < 4 * ((m : Int) + 1)) := ⟨_, rfl⟩
  rw [← hd]
  have hd' := hd.symm
  clear hd
  go_enter Tryd.func24, Tryd.ntmps24
  go_wp2
  go_quiet (fail)
  go_wp2
  go_ret
  exact ⟨rfl, _, rfl⟩
end
end Go.Proofs.YtabclecfamkanaaDoor.Key
