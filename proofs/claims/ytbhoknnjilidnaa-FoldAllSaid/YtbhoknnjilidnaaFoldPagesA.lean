/- FoldPages walked. -/
import Derived.Test.YtbhoknnjilidnaaFoldPages
namespace Go.Proofs.Ytbhoknnjilidnaa.Fold
open Go.Proofs.Ytbhoknnjilidnaa.Mem
open Go.ChangeShapes Go.WideShapes Go.ChangeAt Go.RowKit
open Go.Proofs (encStr)
set_option linter.unusedVariables false
set_option linter.unusedSimpArgs false
def low (i P : Nat) : Nat := if i < P then i else P
def mets (R : List K) (s : K) (i : Nat) : Bool := decide (s ∈ R.take i)
theorem mets_step {R : List K} {s : K} {i : Nat} (h : i < R.length) : mets R s (i + 1) = (mets R s i || decide (R[i] = s)) := by
  unfold mets
  rw [List.take_succ_eq_append_getElem h]
  by_cases h1 : s ∈ R.take i
  · rw [decide_eq_true h1, decide_eq_true (List.mem_append_left _ h1)]; rfl
  · rw [decide_eq_false h1, Bool.false_or]
    refine decide_eq_decide.2 ⟨fun h2 => ?_, fun h2 => ?_⟩
    · rcases List.mem_append.1 h2 with h3 | h3
      · exact absurd h3 h1
      · exact (List.mem_singleton.1 h3).symm
    · exact List.mem_append_right _ (List.mem_singleton.2 h2.symm)
theorem less_place {R : List K} (hr : Ris R) {s : K} {i : Nat} (h : i < R.length) : R[i] < s ↔ i < place R s := by
  constructor
  · intro h1
    rcases Nat.lt_or_ge i (place R s) with h2 | h2
    · exact h2
    · have h3 := place_at R s (by omega)
      rcases Nat.lt_or_ge (place R s) i with h4 | h4
      · exact absurd (lt_tr (List.pairwise_iff_getElem.1 hr _ i (by omega) h h4) h1) h3
      · have : i = place R s := by omega
        subst this
        exact absurd h1 h3
  · exact fun h1 => place_lt R s i h1 h
section
variable {w : World} {a : Option Addr} {ks : List K} {c : Nat}
theorem all_take (ks : List K) (hl : ks.length ≤ 200) : (rest ks [] true).take (1000 : Int).toNat = rest ks [] true := by
  have h1 := rest_length ks [] true
  exact List.take_of_length_le (by simp; omega)
set_option maxRecDepth 100000 in
set_option maxHeartbeats 4000000 in
theorem pages_any (hk : Ks w a ks) (hl : ks.length ≤ 9223372036854775807) (after : K) (first : Bool) (many : Int) (hm : many ≤ 9223372036854775807) :
    Calls Try.prog 3 #[.slice a ks.length c, .string (tx after), .bool first, .int .i64 many] w fun e w' => e = .returned (.bool true) ∧ Below w.heap.size w w' := by
  have HK := Lib.hid hk
  obtain ⟨n, hn⟩ : ∃ n, n = ks.length := ⟨_, rfl⟩
  obtain ⟨z, hz⟩ : ∃ z, z = tx after := ⟨_, rfl⟩
  have hzs : z.size = after.length := by rw [hz]; rfl
  rw [← hn] at hl
  rw [← hn, ← hz]
  have HN := Lib.hid hn
  have HZ := Lib.hid hz
  have HZS := Lib.hid hzs
  clear hk hn hz hzs
  go_enter Try.func3, Try.ntmps3
  go_wp2_with fail
  refine (up_any w).mono ?_
  rintro e w1 ⟨rfl, hb1⟩
  have HB1 := Lib.hid hb1
  clear hb1
  have cS := small_any (c := c) (HK.out.below HB1.out) (by rw [← HN.out]; exact hl)
  rw [← HN.out] at cS
  by_cases hsm : (∀ k ∈ ks, k.length ≤ 200) ∧ n ≤ 200
  · rw [decide_eq_true hsm] at cS
    have HSM := Lib.hid hsm
    clear hsm
    go_wp2_with fail
    refine cS.mono ?_
    rintro e w' ⟨rfl, hw'⟩
    rw [hw']
    clear hw' cS
    by_cases hal : z.size ≤ 200
    · have t1 : decide ((200 : Int) < (z.size : Int)) = false := decide_eq_false (by omega)
      have hl2 : ks.length ≤ 1000 := by rw [← HN.out]; have := HSM.out.2; omega
      have HL2 := Lib.hid hl2
      have c2 := page_any (c := c) (HK.out.below HB1.out) hl2 after first many hm
      rw [← HN.out, ← HZ.out] at c2
      obtain ⟨R, hR⟩ : ∃ R, R = rest ks after first := ⟨_, rfl⟩
      have hRl := rest_length ks after first
      rw [← hR] at c2 hRl
      obtain ⟨T, hT⟩ : ∃ T, T = R.take many.toNat := ⟨_, rfl⟩
      obtain ⟨mo, hmo⟩ : ∃ b, b = decide (many.toNat < R.length) := ⟨_, rfl⟩
      rw [← hT, ← hmo] at c2
      have HT := Lib.hid (And.intro hR (And.intro hT hmo))
      have hTl : T.length ≤ 200 := by rw [hT, List.length_take]; have := HSM.out.2; have := HN.out; omega
      have HTL := Lib.hid hTl
      clear hl2 hRl hR hT hmo hTl
      go_wp2_with fail
      refine c2.mono ?_
      rintro e w2 ⟨v2, rfl, hO2, hb2⟩
      clear c2
      obtain ⟨a2, c2, rfl, hks2, _⟩ := hO2.slice
      have H2 := Lib.hid (And.intro (HB1.out.trans (hb2.mono HB1.out.size)) hks2)
      clear hO2 hb2 hks2
      have c3 := refPage_any (c := c) (HK.out.below H2.out.1) HL2.out after first many hm
      rw [← HN.out, ← HZ.out, ← HT.out.1, ← HT.out.2.1, ← HT.out.2.2] at c3
      obtain ⟨nT, hnT⟩ : ∃ n, n = T.length := ⟨_, rfl⟩
      rw [← hnT]
      have HNT := Lib.hid hnT
      clear hnT
      go_wp2_with fail
      refine c3.mono ?_
      rintro e w3 ⟨v3, rfl, hO3, hb3⟩
      clear c3
      obtain ⟨a3, c3, rfl, hks3, _⟩ := hO3.slice
      have H3 := Lib.hid (And.intro (H2.out.1.trans (hb3.mono H2.out.1.size)) (And.intro (H2.out.2.below hb3) hks3))
      clear hO3 hb3 hks3
      rw [← HNT.out]
      have c4 := refPage_any (c := c) (HK.out.below H3.out.1) HL2.out [] true 1000 (by omega)
      rw [← HN.out, all_take ks (by rw [← HN.out]; exact HSM.out.2), show tx [] = ⟨#[]⟩ from rfl] at c4
      obtain ⟨A, hA⟩ : ∃ A, A = rest ks [] true := ⟨_, rfl⟩
      have hAl := rest_length ks [] true
      rw [← hA] at c4 hAl
      have hAr : Ris A := by rw [hA]; exact (rest_ris ks [] true).1
      obtain ⟨nA, hnA⟩ : ∃ n, n = A.length := ⟨_, rfl⟩
      have hAn : nA ≤ 1000 := by rw [hnA]; exact Nat.le_trans hAl HL2.out
      have HA := Lib.hid (And.intro hAr hnA)
      clear hA hAl hAr hnA
      go_wp2_with fail
      refine c4.mono ?_
      rintro e w4 ⟨v4, rfl, hO4, hb4⟩
      clear c4
      obtain ⟨a4, c4, rfl, hks4, _⟩ := hO4.slice
      have H4 := Lib.hid (And.intro (H3.out.1.trans (hb4.mono H3.out.1.size)) (And.intro (H3.out.2.1.below hb4) (And.intro (H3.out.2.2.below hb4) hks4)))
      clear hO4 hb4 hks4
      rw [← HA.out.2]
      obtain ⟨P, hP⟩ : ∃ P, P = place A after := ⟨_, rfl⟩
      have HP := Lib.hid hP
      clear hP
      go_wp2_with fail
      go_loopw [16, 17, 18] (fun u x y wr => ∃ i : Nat, y = .int .i64 (i : Int) ∧ i ≤ nA ∧ u = .int .i64 ((low i P : Nat) : Int) ∧ x = .bool (mets A after i) ∧ wr = w4) (fun _ _ u _ => nA - (intOf u).toNat)
      case atStart => exact ⟨0, rfl, by omega, by unfold low; split <;> simp <;> omega, by simp [mets], rfl⟩
      case round =>
        obtain ⟨i, rfl, hi, rfl, rfl, rfl⟩ := hrel
        by_cases hlt : i < nA
        · have hi2 : i < A.length := by rw [← HA.out.2]; exact hlt
          obtain ⟨b, off, rfl, hb, hc⟩ := H4.out.2.2.2 (by omega)
          have c0 := hc i hi2
          obtain ⟨y, hy⟩ : ∃ y, y = tx A[i] := ⟨_, rfl⟩
          rw [← hy] at c0
          have HY := Lib.hid hy
          clear hc hy
          obtain ⟨q, hq⟩ : ∃ q, q = low i P := ⟨_, rfl⟩
          obtain ⟨m0, hm0⟩ : ∃ b, b = mets A after i := ⟨_, rfl⟩
          rw [← hq, ← hm0]
          have hq200 : q ≤ 1000 := by rw [hq]; unfold low; split <;> omega
          have HQ := Lib.hid (And.intro hq hm0)
          clear hq hm0
          obtain ⟨b1, hb1⟩ : ∃ b, b = decide (A[i] < after) := ⟨_, rfl⟩
          obtain ⟨b2, hb2⟩ : ∃ b, b = decide (A[i] = after) := ⟨_, rfl⟩
          have t2 : Op.bytesLess y.toList z.toList = b1 := by rw [HY.out, HZ.out, less_tx, hb1]
          have t3 : (y.toList == z.toList) = b2 := by rw [HY.out, HZ.out, same_tx, hb2]
          have hlow : low (i + 1) P = if b1 = true then q + 1 else q := by
            have h1 := less_place HA.out.1 (s := after) hi2
            rw [← HP.out] at h1
            rw [HQ.out.1, hb1]
            unfold low
            by_cases h2 : i < P
            · rw [if_pos (decide_eq_true (h1.2 h2)), if_pos h2]; split <;> omega
            · have h3 : ¬ A[i] < after := fun h => h2 (h1.1 h)
              rw [if_neg h2, if_neg (show ¬ i + 1 < P by omega)]
              simp [h3]
          have hmet : mets A after (i + 1) = (m0 || b2) := by rw [mets_step hi2, HQ.out.2, hb2]
          have HLO := Lib.hid (And.intro hlow hmet)
          clear hb1 hb2 hlow hmet
          rcases b1 with _ | _ <;> rcases m0 with _ | _ <;> rcases b2 with _ | _
          all_goals
            go_wp2_with fail
            go_roundw
            case rel => exact ⟨i + 1, by simp, by omega, by rw [HLO.out.1]; simp, by rw [HLO.out.2]; rfl, by trivial⟩
            case measure => simp [intOf]; omega
        · have hin : i = nA := by omega
          subst hin
          have hPl : P ≤ i := by rw [HP.out, HA.out.2]; exact place_le _ _
          have hlow : low i P = P := by unfold low; rw [if_neg (by omega)]
          have hmet : mets A after i = decide (after ∈ A) := by unfold mets; rw [HA.out.2, List.take_length]
          rw [hlow, hmet]
          obtain ⟨bm, hbm⟩ : ∃ b, b = decide (after ∈ A) := ⟨_, rfl⟩
          have cF := find_any (c := c4) H4.out.2.2.2 HA.out.1 (by rw [← HA.out.2]; omega) after
          rw [← HA.out.2, ← HP.out, ← hbm, ← HZ.out] at cF
          rw [← hbm]
          clear hlow hmet hbm
          go_wp2_with fail
          refine cF.mono ?_
          rintro e w5 ⟨rfl, q5, hw5⟩
          clear cF
          have H5 := Lib.hid (show Below w.heap.size w w5 ∧ Ks w5 a2 T ∧ Ks w5 a3 T from by rw [hw5]; exact ⟨draw_below H4.out.1 _, H4.out.2.1.draw _, H4.out.2.2.1.draw _⟩)
          clear hw5
          have cT := texts_same (c := c2) (c' := c3) H5.out.2.1 H5.out.2.2 (by have := HTL.out; omega)
          rw [← HNT.out] at cT
          go_wp2_with fail
          refine cT.mono ?_
          rintro e w6 ⟨rfl, q6, hw6⟩
          have H6 := Lib.hid (show Below w.heap.size w w6 from by rw [hw6]; exact draw_below H5.out.1 _)
          clear cT hw6
          go_wp2_with fail
          go_ret
          exact ⟨rfl, H6.out⟩
    · have t1 : decide ((200 : Int) < (z.size : Int)) = true := decide_eq_true (by omega)
      go_wp2_with fail
      go_ret
      exact ⟨rfl, HB1.out⟩
  · rw [decide_eq_false hsm] at cS
    clear hsm
    go_wp2_with fail
    refine cS.mono ?_
    rintro e w' ⟨rfl, hw'⟩
    rw [hw']
    clear hw' cS
    go_wp2_with fail
    go_ret
    exact ⟨rfl, HB1.out⟩
end
end Go.Proofs.Ytbhoknnjilidnaa.Fold
