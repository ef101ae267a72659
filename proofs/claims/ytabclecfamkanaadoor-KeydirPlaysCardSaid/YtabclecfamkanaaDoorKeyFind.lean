/- The program's search for a key: where it lies, or would. -/
import Derived.Test.YtabclecfamkanaaDoorKeyLook
namespace Go.Proofs.YtabclecfamkanaaDoor.Key
open Go.Proofs.YtabclecfamkanaaDoor.Mem Go.Proofs.YtabclecfamkanaaDoor.Fnv
open Go.ChangeShapes Go.WideShapes Go.ChangeAt Go.RowKit
set_option linter.unusedVariables false
set_option linter.unusedSimpArgs false
theorem str_beq (a b : ByteArray) : (a.toList == b.toList) = decide (a = b) := by
  rw [ByteArray.toList_eq, ByteArray.toList_eq, Bool.eq_iff_iff]
  obtain ⟨⟨x⟩⟩ := a
  obtain ⟨⟨y⟩⟩ := b
  simp
theorem stops_false {T : Tab} {s : ByteArray} {j : Nat} (h : stops T s j = false) : ∃ e, look T j = some e ∧ (e.key.toList == s.toList) = false := by
  cases hl : look T j with
  | none => simp [stops, hl] at h
  | some e =>
    rw [stops_key hl] at h
    exact ⟨e, rfl, by rw [str_beq]; exact h⟩
theorem stops_true {T : Tab} {s : ByteArray} {j : Nat} (h : stops T s j = true) : look T j = none ∨ ∃ e, look T j = some e ∧ (e.key.toList == s.toList) = true := by
  cases hl : look T j with
  | none => exact .inl rfl
  | some e =>
    rw [stops_key hl] at h
    exact .inr ⟨e, rfl, by rw [str_beq]; exact h⟩
theorem off_of {n h d : Nat} (hh : h < n) (hd : d < n) : ((h + d) % n + n - h) % n = d := by
  rcases Nat.lt_or_ge (h + d) n with h1 | h1
  · rw [Nat.mod_eq_of_lt h1, show h + d + n - h = d + n by omega, Nat.add_mod_right, Nat.mod_eq_of_lt hd]
  · have h2 : (h + d) % n = h + d - n := by
      rw [Nat.mod_eq_sub_mod h1, Nat.mod_eq_of_lt (by omega)]
    rw [h2, show h + d - n + n - h = d by omega, Nat.mod_eq_of_lt hd]
section
variable {w : World} {p g i kn : Nat} {T : Tab}
set_option maxRecDepth 100000 in
set_option maxHeartbeats 1000000 in
theorem kfind_any (h : KAt w p g T i kn) (s : ByteArray) (hs : s.size ≤ 100) :
    Calls Tryd.prog 21 #[.pointer (some ⟨p, 0, none⟩), .string s] w fun e w' => e = .returned (.int .i64 ((find T s : Nat) : Int)) ∧ w = w' := by
  have c0 : w.cell? ⟨p, 0, none⟩ = some (.slice (some ⟨g, 0, none⟩) T.length T.length) := h.blk.cell 0
  obtain ⟨l1, l2⟩ := h.lt
  have HD := Lib.hid (dist_free h.good.free s)
  have HH := Lib.hid (khome_any h s hs)
  have HN := Lib.hid (knext_any h)
  have HC := Lib.hid (fun k hk => Blk.cells h.row (k := k) hk)
  clear h
  obtain ⟨n, hn⟩ : ∃ n, n = T.length := ⟨_, rfl⟩
  rw [← hn] at c0 l1 l2 HH HN HC HD
  have HNN := Lib.hid hn
  clear hn
  go_enter Tryd.func21, Tryd.ntmps21
  go_wp2_with fail
  refine HH.out.mono ?_
  rintro e w' ⟨rfl, rfl⟩
  go_wp2_with fail
  go_loop [5] (fun at_ => ∃ d : Nat, d ≤ dist T s ∧ at_ = .int .i64 (((hm n s + d) % n : Nat) : Int)) (fun at_ => dist T s - (((intOf at_).toNat + n - hm n s) % n))
  case atStart => exact ⟨0, Nat.zero_le _, by rw [Nat.add_zero, Nat.mod_eq_of_lt (hm_lt (by omega) s)]⟩
  case round =>
    obtain ⟨d, hd, rfl⟩ := hrel
    have hdl := HD.out
    have hnn := HNN.out
    have hml := hm_lt (show 0 < n by omega) s
    have hk : (hm n s + d) % n < n := Nat.mod_lt _ (by omega)
    obtain ⟨k, hkd⟩ : ∃ k, k = (hm n s + d) % n := ⟨_, rfl⟩
    rw [← hkd] at hk ⊢
    obtain ⟨a0, a1, -, -, -, -, -, -⟩ := HC.out k hk
    by_cases hdd : d < dist T s
    · have hst := dist_before hdd
      rw [← hnn, ← hkd] at hst
      obtain ⟨e, hl, hne⟩ := stops_false hst
      rw [hl] at a0 a1
      have e0 : w.cell? ⟨g, k * 8, none⟩ = some (.bool true) := a0
      have e1 : w.cell? ⟨g, k * 8 + 1, none⟩ = some (.string e.key) := a1
      have hoff := off_of hml (show d < n by omega)
      rw [← hkd] at hoff
      have hnext : (k + 1) % n = (hm n s + (d + 1)) % n := by rw [hkd, Nat.mod_add_mod, Nat.add_assoc]
      have hoff2 := off_of hml (show d + 1 < n by omega)
      rw [← hnext] at hoff2
      have HX := Lib.hid (HN.out k (by omega))
      have HNX := Lib.hid hnext
      have HOFF := Lib.hid hoff
      have HOFF2 := Lib.hid hoff2
      have HDD := Lib.hid hdd
      clear a0 a1 HH HN HC HD hst hl hoff hoff2 hnext hkd hd hdl hdd HNN hnn
      go_wp2_with fail
      refine HX.out.mono ?_
      rintro e' w' ⟨rfl, rfl⟩
      have hm3 := Nat.mod_lt (k + 1) (show 0 < n by omega)
      obtain ⟨k', hk'⟩ : ∃ k', k' = (k + 1) % n := ⟨_, rfl⟩
      rw [← hk'] at hm3 HNX HOFF2 ⊢
      clear hk' HX
      go_wp2_with fail
      go_round
      case rel => exact ⟨d + 1, HDD.out, by rw [← HNX.out]⟩
      case measure => simp only [intOf, Int.toNat_natCast]; rw [HOFF.out, HOFF2.out]; have := HDD.out; omega
    · have hde : d = dist T s := by omega
      have hfd : find T s = k := by rw [find, ← hnn, ← hde, ← hkd]
      have hst : stops T s k = true := by rw [← hfd]; exact dist_stops (by omega)
      have HF := Lib.hid hfd
      clear HH HN HD hkd hfd hd hde hdd hdl hnn
      rcases stops_true hst with hl | ⟨e, hl, heq⟩
      · rw [hl] at a0
        have e0 : w.cell? ⟨g, k * 8, none⟩ = some (.bool false) := a0
        clear a0 a1 HC hst hl
        go_wp2_with fail
        go_ret
        exact ⟨by rw [HF.out]; rfl, rfl⟩
      · rw [hl] at a0 a1
        have e0 : w.cell? ⟨g, k * 8, none⟩ = some (.bool true) := a0
        have e1 : w.cell? ⟨g, k * 8 + 1, none⟩ = some (.string e.key) := a1
        clear a0 a1 HC hst hl
        go_wp2_with fail
        go_ret
        exact ⟨by rw [HF.out]; rfl, rfl⟩
end
end Go.Proofs.YtabclecfamkanaaDoor.Key
