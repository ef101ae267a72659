/- The walk to a serial's place; what rights are within others, by the document's answer. -/
import Derived.Test.YtciplhpnbpmfeaaRgtPlace
import Derived.BigQuiet
import Derived.Deep.CutRange
namespace Go.Proofs.Ytciplhpnbpmfeaa.Rgt
open Go.Proofs.Ytciplhpnbpmfeaa.Mem
open Go.ChangeShapes Go.WideShapes Go.ChangeAt Go.RowKit
set_option linter.unusedVariables false
set_option linter.unusedSimpArgs false
structure PlcIs (s : Nat) (T : List Tok) (q : Nat) (b : Bool) : Prop where
  le : q ≤ T.length
  below : ∀ i (h : i < T.length), i < q → T[i].s < s
  at_ : ∀ h : q < T.length, ¬ T[q].s < s
  look : b = true ↔ ∃ h : q < T.length, T[q].s = s
theorem plc_is (s : Nat) {T : List Tok} (hT : Ris T) : PlcIs s T (plc s T) (look s T).isSome := ⟨plc_le s T, fun i h hi => plc_below s h hi, plc_at s, plc_look hT⟩
theorem row_cell {w : World} {base g n cap : Nat} {T : List Tok} (h : w.ownsRow base 43 14 (.slice (some ⟨g, 0, none⟩) n cap) n (rcl T)) {i : Nat} (hi : i < T.length) : w.cell? ⟨g, i * 14 + 7, none⟩ = some (.int .u32 (T[i].s : Int)) := by
  have hn : T.length = n := by have := h.1; rw [rcl_length] at this; omega
  have h1 := h.cellAt (i * 14 + 7) (by omega)
  (try rw [Nat.zero_add] at h1)
  rw [h1]
  exact flat_get rcells_length (l := T) (i := i) (j := 7) (x := T[i]) (List.getElem?_eq_getElem _) (by omega)
set_option maxRecDepth 100000 in
set_option maxHeartbeats 1000000 in
theorem place_none (s : Nat) (w : World) : Calls Try.prog 9 #[.slice none 0 0, .int .u32 (s : Int)] w fun e w' => e = .returned (.tuple #[.int .i64 0, .bool false]) ∧ w = w' := by
  go_enter Try.func9, Try.ntmps9
  go_wp2
  go_loopw [6] (fun v wr => v = .int .i64 0 ∧ w = wr) (fun _ _ => 0)
  case atStart => exact ⟨rfl, rfl⟩
  case round =>
    obtain ⟨rfl, rfl⟩ := hrel
    go_wp2
    go_returns
    exact ⟨rfl, rfl⟩
set_option maxRecDepth 100000 in
set_option maxHeartbeats 1000000 in
theorem place_some {w : World} {base g n cap : Nat} {T : List Tok} (hT : Ris T) (h : w.ownsRow base 43 14 (.slice (some ⟨g, 0, none⟩) n cap) n (rcl T)) (hn : n ≤ 1000) (s : Nat) :
    Calls Try.prog 9 #[.slice (some ⟨g, 0, none⟩) n cap, .int .u32 (s : Int)] w fun e w' => e = .returned (.tuple #[.int .i64 ((plc s T : Nat) : Int), .bool (look s T).isSome]) ∧ ∃ k, w' = w.drewN k := by
  have hnT : T.length = n := by have := h.1; rw [rcl_length] at this; omega
  have HP := Lib.hid (plc_is s hT)
  generalize plc s T = q at HP ⊢
  generalize (look s T).isSome = b at HP ⊢
  have hle := HP.out.le
  rw [hnT] at hle
  have HN := Lib.hid hnT
  have H := Lib.hid h
  clear h hnT
  go_enter Try.func9, Try.ntmps9
  go_wp2
  go_loopw [6] (fun v wr => ∃ i : Nat, i ≤ q ∧ v = .int .i64 (i : Int) ∧ w = wr) (fun v _ => n - (intOf v).toNat)
  case atStart => exact ⟨0, by omega, rfl, rfl⟩
  case round =>
    obtain ⟨i, hi, rfl, rfl⟩ := hrel
    by_cases hin : i < n
    · have hini : (i : Int) < (n : Int) := by omega
      have hiT : i < T.length := by rw [HN.out]; exact hin
      have c7 := row_cell H.out hiT
      obtain ⟨x, hx⟩ : ∃ x, x = T[i].s := ⟨_, rfl⟩
      rw [← hx] at c7
      by_cases hiq : i < q
      · have hxs : (x : Int) < (s : Int) := by
          have := HP.out.below i hiT hiq
          omega
        have HX := Lib.hid hx
        clear hx
        go_wp2
        go_roundw
        case rel => exact ⟨i + 1, by omega, by go_num, by first | trivial | rfl⟩
        case measure => (simp [intOf] <;> omega)
      · have hqi : i = q := by omega
        have hxs : ¬ (x : Int) < (s : Int) := by
          have := HP.out.at_ (by rw [HN.out]; omega)
          simp only [← hqi] at this
          omega
        have hni : ¬ (i : Int) = (n : Int) := by omega
        have hbx : b = decide (x = s) := by
          have h1 := HP.out.look
          simp only [← hqi] at h1
          rw [Bool.eq_iff_iff, h1]
          simp [hx, hiT]
        have hbi : ((x : Int) == (s : Int)) = b := by
          rw [hbx, Bool.eq_iff_iff]
          simp only [beq_iff_eq, decide_eq_true_eq]
          omega
        have HBI := Lib.hid hbi
        have HQ := Lib.hid hqi
        clear hx hbx hbi hqi
        go_wp2_with fail
        go_quiet (fail)
        go_wp2
        go_returns
        exact ⟨by rw [← HBI.out, ← HQ.out]; rfl, nq, rfl⟩
    · have hini : ¬ (i : Int) < (n : Int) := by omega
      have hni : (i : Int) = (n : Int) := by omega
      have hqn : q = n := by omega
      have hbf : b = false := by
        have h1 := HP.out.look
        cases b with
        | false => rfl
        | true =>
          obtain ⟨h2, _⟩ := h1.1 rfl
          rw [HN.out] at h2
          omega
      have HBF := Lib.hid (And.intro hqn hbf)
      clear hbf hqn
      go_wp2
      go_returns
      exact ⟨by rw [HBF.out.1, HBF.out.2]; rfl, 0, rfl⟩
/- What the bits say, for rights that may be. -/
def bad3 (a b c : Int) : Bool := decide (a / c % 2 = 1) && decide (b / c % 2 = 0)
theorem within_bits (a b : Fin 8) : within (a.val : Int) (b.val : Int) = (decide (1 ≤ (a.val : Int) ∧ (a.val : Int) ≤ 7) && (!bad3 a.val b.val 1 && !bad3 a.val b.val 2 && !bad3 a.val b.val 4)) := by
  revert a b
  decide +kernel
theorem within_is (a b : Int) (hb : 0 ≤ b ∧ b ≤ 7) : within a b = (decide (1 ≤ a ∧ a ≤ 7) && (!bad3 a b 1 && !bad3 a b 2 && !bad3 a b 4)) := by
  by_cases ha : 1 ≤ a ∧ a ≤ 7
  · obtain ⟨x, rfl⟩ : ∃ x : Nat, a = (x : Int) := ⟨a.toNat, by omega⟩
    obtain ⟨y, rfl⟩ : ∃ y : Nat, b = (y : Int) := ⟨b.toNat, by omega⟩
    exact within_bits ⟨x, by omega⟩ ⟨y, by omega⟩
  · unfold within
    rw [decide_eq_false ha]
    rfl
set_option maxRecDepth 100000 in
set_option maxHeartbeats 1000000 in
theorem ref_within (a b : Int) (hb : 0 ≤ b ∧ b ≤ 7) (w : World) : Calls Try.prog 8 #[.int .i64 a, .int .i64 b] w fun e w' => e = .returned (.bool (within a b)) ∧ w = w' := by
  rw [within_is a b hb]
  by_cases ha : 1 ≤ a ∧ a ≤ 7
  · rw [decide_eq_true ha, Bool.true_and]
    have h1 : ¬ a < 1 := by omega
    have h2 : ¬ 7 < a := by omega
    have HA := Lib.hid ha
    have HB := Lib.hid hb
    clear ha hb
    go_enter Try.func8, Try.ntmps8
    go_wp2
    go_loopw [5] (fun v wr => (v = .int .i64 1 ∨ (v = .int .i64 2 ∧ bad3 a b 1 = false) ∨ (v = .int .i64 4 ∧ bad3 a b 1 = false ∧ bad3 a b 2 = false) ∨ (v = .int .i64 8 ∧ bad3 a b 1 = false ∧ bad3 a b 2 = false ∧ bad3 a b 4 = false)) ∧ w = wr) (fun v _ => 8 - (intOf v).toNat)
    case atStart => exact ⟨.inl rfl, rfl⟩
    case round =>
      obtain ⟨hv, rfl⟩ := hrel
      rcases hv with rfl | ⟨rfl, hk1⟩ | ⟨rfl, hk1, hk2⟩ | ⟨rfl, hk1, hk2, hk4⟩
      · obtain ⟨o, hoo⟩ : ∃ o, o = b / 1 % 2 := ⟨_, rfl⟩
        obtain ⟨t, htt⟩ : ∃ t, t = a / 1 % 2 := ⟨_, rfl⟩
        have b0 : 0 ≤ b := by have := HB.out; omega
        have b1 : b ≤ 7 := by have := HB.out; omega
        have a0 : 0 ≤ a := by have := HA.out; omega
        have a1 : a ≤ 7 := by have := HA.out; omega
        have eb : b.tmod 2 = o := by rw [hoo]; rw [Int.tmod_eq_emod_of_nonneg (by have := HB.out; omega)]; omega
        have ea : a.tmod 2 = t := by rw [htt]; rw [Int.tmod_eq_emod_of_nonneg (by have := HA.out; omega)]; omega
        have ho : o = 0 ∨ o = 1 := by omega
        have ht : t = 0 ∨ t = 1 := by omega
        have hbd : bad3 a b 1 = (decide (t = 1) && decide (o = 0)) := by unfold bad3; rw [← hoo, ← htt]
        have HBD := Lib.hid hbd
        clear hoo htt hbd
        rcases ht with rfl | rfl
        · rcases ho with rfl | rfl
          · have hz : bad3 a b 1 = false := by rw [HBD.out]; rfl
            have HZ := Lib.hid hz
            clear hz
            go_wp2
            go_roundw
            case rel => exact ⟨.inr (.inl ⟨rfl, HZ.out⟩), by first | trivial | rfl⟩
            case measure => (simp [intOf] <;> omega)
          · have hz : bad3 a b 1 = false := by rw [HBD.out]; rfl
            have HZ := Lib.hid hz
            clear hz
            go_wp2
            go_roundw
            case rel => exact ⟨.inr (.inl ⟨rfl, HZ.out⟩), by first | trivial | rfl⟩
            case measure => (simp [intOf] <;> omega)
        · rcases ho with rfl | rfl
          · have hz : bad3 a b 1 = true := by rw [HBD.out]; rfl
            have HZ := Lib.hid hz
            clear hz
            go_wp2
            go_ret
            exact ⟨by rw [HZ.out]; simp, rfl⟩
          · have hz : bad3 a b 1 = false := by rw [HBD.out]; rfl
            have HZ := Lib.hid hz
            clear hz
            go_wp2
            go_roundw
            case rel => exact ⟨.inr (.inl ⟨rfl, HZ.out⟩), by first | trivial | rfl⟩
            case measure => (simp [intOf] <;> omega)
      · obtain ⟨o, hoo⟩ : ∃ o, o = b / 2 % 2 := ⟨_, rfl⟩
        obtain ⟨t, htt⟩ : ∃ t, t = a / 2 % 2 := ⟨_, rfl⟩
        have b0 : 0 ≤ (b.tdiv 2) := by rw [Int.tdiv_eq_ediv_of_nonneg (by have := HB.out; omega)]; have := HB.out; omega
        have b1 : (b.tdiv 2) ≤ 7 := by rw [Int.tdiv_eq_ediv_of_nonneg (by have := HB.out; omega)]; have := HB.out; omega
        have a0 : 0 ≤ (a.tdiv 2) := by rw [Int.tdiv_eq_ediv_of_nonneg (by have := HA.out; omega)]; have := HA.out; omega
        have a1 : (a.tdiv 2) ≤ 7 := by rw [Int.tdiv_eq_ediv_of_nonneg (by have := HA.out; omega)]; have := HA.out; omega
        have eb : (b.tdiv 2).tmod 2 = o := by rw [hoo]; rw [Int.tdiv_eq_ediv_of_nonneg (by have := HB.out; omega), Int.tmod_eq_emod_of_nonneg (by have := HB.out; omega)]
        have ea : (a.tdiv 2).tmod 2 = t := by rw [htt]; rw [Int.tdiv_eq_ediv_of_nonneg (by have := HA.out; omega), Int.tmod_eq_emod_of_nonneg (by have := HA.out; omega)]
        have ho : o = 0 ∨ o = 1 := by omega
        have ht : t = 0 ∨ t = 1 := by omega
        have hbd : bad3 a b 2 = (decide (t = 1) && decide (o = 0)) := by unfold bad3; rw [← hoo, ← htt]
        have HBD := Lib.hid hbd
        clear hoo htt hbd
        rcases ht with rfl | rfl
        · rcases ho with rfl | rfl
          · have hz : bad3 a b 2 = false := by rw [HBD.out]; rfl
            have HZ := Lib.hid hz
            clear hz
            go_wp2
            go_roundw
            case rel => exact ⟨.inr (.inr (.inl ⟨rfl, hk1, HZ.out⟩)), by first | trivial | rfl⟩
            case measure => (simp [intOf] <;> omega)
          · have hz : bad3 a b 2 = false := by rw [HBD.out]; rfl
            have HZ := Lib.hid hz
            clear hz
            go_wp2
            go_roundw
            case rel => exact ⟨.inr (.inr (.inl ⟨rfl, hk1, HZ.out⟩)), by first | trivial | rfl⟩
            case measure => (simp [intOf] <;> omega)
        · rcases ho with rfl | rfl
          · have hz : bad3 a b 2 = true := by rw [HBD.out]; rfl
            have HZ := Lib.hid hz
            clear hz
            go_wp2
            go_ret
            exact ⟨by rw [HZ.out]; simp, rfl⟩
          · have hz : bad3 a b 2 = false := by rw [HBD.out]; rfl
            have HZ := Lib.hid hz
            clear hz
            go_wp2
            go_roundw
            case rel => exact ⟨.inr (.inr (.inl ⟨rfl, hk1, HZ.out⟩)), by first | trivial | rfl⟩
            case measure => (simp [intOf] <;> omega)
      · obtain ⟨o, hoo⟩ : ∃ o, o = b / 4 % 2 := ⟨_, rfl⟩
        obtain ⟨t, htt⟩ : ∃ t, t = a / 4 % 2 := ⟨_, rfl⟩
        have b0 : 0 ≤ (b.tdiv 4) := by rw [Int.tdiv_eq_ediv_of_nonneg (by have := HB.out; omega)]; have := HB.out; omega
        have b1 : (b.tdiv 4) ≤ 7 := by rw [Int.tdiv_eq_ediv_of_nonneg (by have := HB.out; omega)]; have := HB.out; omega
        have a0 : 0 ≤ (a.tdiv 4) := by rw [Int.tdiv_eq_ediv_of_nonneg (by have := HA.out; omega)]; have := HA.out; omega
        have a1 : (a.tdiv 4) ≤ 7 := by rw [Int.tdiv_eq_ediv_of_nonneg (by have := HA.out; omega)]; have := HA.out; omega
        have eb : (b.tdiv 4).tmod 2 = o := by rw [hoo]; rw [Int.tdiv_eq_ediv_of_nonneg (by have := HB.out; omega), Int.tmod_eq_emod_of_nonneg (by have := HB.out; omega)]
        have ea : (a.tdiv 4).tmod 2 = t := by rw [htt]; rw [Int.tdiv_eq_ediv_of_nonneg (by have := HA.out; omega), Int.tmod_eq_emod_of_nonneg (by have := HA.out; omega)]
        have ho : o = 0 ∨ o = 1 := by omega
        have ht : t = 0 ∨ t = 1 := by omega
        have hbd : bad3 a b 4 = (decide (t = 1) && decide (o = 0)) := by unfold bad3; rw [← hoo, ← htt]
        have HBD := Lib.hid hbd
        clear hoo htt hbd
        rcases ht with rfl | rfl
        · rcases ho with rfl | rfl
          · have hz : bad3 a b 4 = false := by rw [HBD.out]; rfl
            have HZ := Lib.hid hz
            clear hz
            go_wp2
            go_roundw
            case rel => exact ⟨.inr (.inr (.inr ⟨rfl, hk1, hk2, HZ.out⟩)), by first | trivial | rfl⟩
            case measure => (simp [intOf] <;> omega)
          · have hz : bad3 a b 4 = false := by rw [HBD.out]; rfl
            have HZ := Lib.hid hz
            clear hz
            go_wp2
            go_roundw
            case rel => exact ⟨.inr (.inr (.inr ⟨rfl, hk1, hk2, HZ.out⟩)), by first | trivial | rfl⟩
            case measure => (simp [intOf] <;> omega)
        · rcases ho with rfl | rfl
          · have hz : bad3 a b 4 = true := by rw [HBD.out]; rfl
            have HZ := Lib.hid hz
            clear hz
            go_wp2
            go_ret
            exact ⟨by rw [HZ.out]; simp, rfl⟩
          · have hz : bad3 a b 4 = false := by rw [HBD.out]; rfl
            have HZ := Lib.hid hz
            clear hz
            go_wp2
            go_roundw
            case rel => exact ⟨.inr (.inr (.inr ⟨rfl, hk1, hk2, HZ.out⟩)), by first | trivial | rfl⟩
            case measure => (simp [intOf] <;> omega)
      · have HK := Lib.hid (And.intro hk1 (And.intro hk2 hk4))
        clear hk1 hk2 hk4
        go_wp2
        go_ret
        exact ⟨by rw [HK.out.1, HK.out.2.1, HK.out.2.2]; rfl, rfl⟩
  · rw [decide_eq_false ha, Bool.false_and]
    by_cases h1 : a < 1
    · clear ha hb
      go_enter Try.func8, Try.ntmps8
      go_wp2
      go_ret
      exact ⟨rfl, rfl⟩
    · have h2 : 7 < a := by omega
      clear ha hb
      go_enter Try.func8, Try.ntmps8
      go_wp2
      go_ret
      exact ⟨rfl, rfl⟩
end Go.Proofs.Ytciplhpnbpmfeaa.Rgt
