/- Contracts of the program's Page and Find. -/
import Derived.Test.YtbhoknnjilidnaaFoldRise
namespace Go.Proofs.Ytbhoknnjilidnaa.Fold
open Go.Proofs.Ytbhoknnjilidnaa.Mem
open Go.ChangeShapes Go.WideShapes Go.ChangeAt Go.RowKit
open Go.Proofs (encStr)
set_option linter.unusedVariables false
set_option linter.unusedSimpArgs false
section
variable {w : World} {a : Option Addr} {ks : List K} {c B : Nat} {v : Value}
set_option maxRecDepth 100000 in
set_option maxHeartbeats 2000000 in
theorem page_any (hk : Ks w a ks) (hl : ks.length ≤ 1000) (after : K) (first : Bool) (many : Int) (hm : many ≤ 9223372036854775807) :
    Calls Try.prog 7 #[.slice a ks.length c, .string (tx after), .bool first, .int .i64 many] w fun e w' => ∃ v, e = .returned (.tuple #[v, .bool (decide (many.toNat < (rest ks after first).length))]) ∧ KOwn w' w.heap.size v ((rest ks after first).take many.toNat) ∧ Below w.heap.size w w' := by
  have cR := rising_any (c := c) hk hl after first
  have hRl := Nat.le_trans (rest_length ks after first) hl
  obtain ⟨n, hn⟩ : ∃ n, n = ks.length := ⟨_, rfl⟩
  rw [← hn] at hl cR ⊢
  obtain ⟨z, hz⟩ : ∃ z, z = tx after := ⟨_, rfl⟩
  rw [← hz] at cR ⊢
  obtain ⟨R, hR⟩ : ∃ R, R = rest ks after first := ⟨_, rfl⟩
  obtain ⟨nR, hnR⟩ : ∃ n, n = R.length := ⟨_, rfl⟩
  obtain ⟨m, hmm⟩ : ∃ m, m = many.toNat := ⟨_, rfl⟩
  rw [← hR] at cR hRl
  rw [← hR, ← hmm, ← hnR]
  rw [← hnR] at hRl
  have HNR := Lib.hid hnR
  have HM := Lib.hid hmm
  clear hR hnR hmm hk hn hz
  go_enter Try.func7, Try.ntmps7
  go_wp2_with fail
  refine cR.mono ?_
  rintro e w2 ⟨v, rfl, hO, hb⟩
  clear cR
  obtain ⟨av, cv, rfl, hks, hnc, hcm, hnil, hat⟩ := hO.slice
  rw [← HNR.out] at hO hnc ⊢
  have hmax : (if (many : Int) < 0 then (0 : Int) else many) = (m : Int) := by
    have := HM.out
    split <;> omega
  have hmax2 : max many 0 = (m : Int) := by have := HM.out; omega
  by_cases hmr : nR ≤ m
  · have t1 : decide ((nR : Int) ≤ (m : Int)) = true := decide_eq_true (by omega)
    have HE := Lib.hid (show KOwn w2 w.heap.size (.slice av nR cv) (R.take m) from by rw [List.take_of_length_le (by rw [← HNR.out]; omega)]; exact hO)
    have HB := Lib.hid hb
    clear hO hks hnil hat hcm hb
    go_wp2_with fail
    go_returns
    refine ⟨_, (by first | rfl | (rw [decide_eq_false (show ¬ m < nR by omega)]; rfl)), HE.out, HB.out⟩
  · have t1 : decide ((nR : Int) ≤ (m : Int)) = false := decide_eq_false (by omega)
    obtain ⟨g, off, rfl, hg, hc⟩ := hks (by rw [← HNR.out]; omega)
    have hof := (hat _ rfl).2.2.1
    simp only at hof
    subst hof
    have HB := Lib.hid hb
    have hcell : ∀ j, j < (R.map tx).length → w2.cell? ⟨g, 0 + j, none⟩ = some (.string ((R.map tx).getD j ByteArray.empty)) := fun j hj => by
      rw [List.length_map] at hj
      rw [hc j hj]
      simp [List.getD, hj]
    have HC := Lib.hid hcell
    have hcv2 : (m : Int) ≤ (cv : Int) := by omega
    have hcv3 : m ≤ cv := by omega
    clear hO hks hnil hat hcm hb hc hcell
    rcases Nat.eq_zero_or_pos m with h0 | h0
    · subst h0
      go_wp2_with fail
      refine (Try.slices_Clone_string_zero _ _ _).mono ?_
      rintro e w3 ⟨v3, rfl, ho3, _, hb3⟩
      have HE := Lib.hid (show KOwn w3 w.heap.size v3 (R.take 0) from KOwn.base (B := w2.heap.size) ho3 HB.out.size)
      have HB3 := Lib.hid (HB.out.trans (hb3.mono HB.out.size))
      clear ho3 hb3
      go_wp2_with fail
      go_returns
      exact ⟨_, (by first | rfl | (rw [decide_eq_true (show 0 < nR by omega)]; rfl)), HE.out, HB3.out⟩
    · have cC := Try.slices_Clone_string g 0 m cv (R.map tx) w2 (by rw [List.length_map, ← HNR.out]; omega) (by omega) HC.out
      go_wp2_with fail
      refine cC.mono ?_
      rintro e w3 ⟨v3, rfl, ho3, _, hb3⟩
      clear cC
      have HE := Lib.hid (show KOwn w3 w.heap.size v3 (R.take m) from by
        refine KOwn.base (B := w2.heap.size) ?_ HB.out.size
        unfold KOwn
        rw [List.length_take, Nat.min_eq_left (by rw [← HNR.out]; omega)]
        have e : (R.map tx).take m = (R.take m).map tx := by rw [List.map_take]
        rw [e, List.map_map] at ho3
        exact ho3)
      have HB3 := Lib.hid (HB.out.trans (hb3.mono HB.out.size))
      clear ho3 hb3
      go_wp2_with fail
      go_returns
      exact ⟨_, (by first | rfl | (rw [decide_eq_true (show m < nR by omega)]; rfl)), HE.out, HB3.out⟩
theorem found {n : Nat} (hr : Ris ks) (hn : n = ks.length) (s : K) (Sx : Nat → ByteArray) (h1 : ∀ j (h : j < ks.length), Sx j = tx ks[j]) (h2 : ∀ j, n ≤ j → Sx j = tx s) :
    Lib.bsGo (fun t => Op.bytesLess (Sx t).toList (tx s).toList) n 0 n = place ks s ∧ decide (place ks s < n ∧ Sx (place ks s) = tx s) = decide (s ∈ ks) := by
  have hp := place_le ks s
  refine ⟨?_, ?_⟩
  · refine Lib.bsGo_spec _ (place ks s) (fun t ht => ?_) (fun t ht => ?_) n 0 n (by omega) (Nat.zero_le _) (by omega)
    · rw [h1 t (by omega), less_tx]
      exact decide_eq_true (place_lt ks s t ht (by omega))
    · rcases Nat.lt_or_ge t n with h3 | h3
      · rw [h1 t (by omega), less_tx]
        refine decide_eq_false (fun h4 => ?_)
        have h5 := place_at ks s (by omega)
        rcases Nat.lt_or_ge (place ks s) t with h6 | h6
        · exact h5 (lt_tr (List.pairwise_iff_getElem.1 hr _ t (by omega) (by omega) h6) h4)
        · have : t = place ks s := by omega
          subst this
          exact h5 h4
      · rw [h2 t h3, less_tx]
        exact decide_eq_false (lt_irr _)
  · refine decide_eq_decide.2 (Iff.trans ⟨?_, ?_⟩ (mem_place hr).symm)
    · rintro ⟨h3, h4⟩
      refine ⟨by omega, ?_⟩
      rw [h1 _ (by omega)] at h4
      exact tx_inj h4
    · rintro ⟨h3, h4⟩
      exact ⟨by omega, by rw [h1 _ h3, h4]⟩
set_option maxRecDepth 100000 in
set_option maxHeartbeats 2000000 in
theorem find_any (hk : Ks w a ks) (hr : Ris ks) (hl : ks.length ≤ 1000000) (s : K) :
    Calls Try.prog 9 #[.slice a ks.length c, .string (tx s)] w fun e w' => e = .returned (.tuple #[.int .i64 (place ks s : Nat), .bool (decide (s ∈ ks))]) ∧ ∃ q, w' = w.drewN q := by
  obtain ⟨n, hn⟩ : ∃ n, n = ks.length := ⟨_, rfl⟩
  obtain ⟨z, hz⟩ : ∃ z, z = tx s := ⟨_, rfl⟩
  obtain ⟨P, hP⟩ : ∃ P, P = place ks s := ⟨_, rfl⟩
  obtain ⟨Bm, hBm⟩ : ∃ b, b = decide (s ∈ ks) := ⟨_, rfl⟩
  rw [← hn] at hl
  rw [← hn, ← hz, ← hP, ← hBm]
  rcases Nat.eq_zero_or_pos n with h0 | h0
  · have hks : ks = [] := List.eq_nil_of_length_eq_zero (by omega)
    have hP0 : P = 0 := by rw [hP, hks]; rfl
    have hB0 : Bm = false := by rw [hBm, hks]; rfl
    subst h0
    clear hn hz hP hBm hk hr
    subst hP0; subst hB0
    go_enter Try.func9, Try.ntmps9
    go_wp2_with fail
    refine (Try.slices_BinarySearch_string_empty _ _ _ _).mono ?_
    rintro e w' ⟨rfl, hw'⟩
    rw [hw']
    clear hw'
    go_wp2_with fail
    go_returns
    exact ⟨rfl, 0, rfl⟩
  · obtain ⟨g, off, rfl, hg, hc⟩ := hk (by omega)
    obtain ⟨Sx, hSx⟩ : ∃ Sx : Nat → ByteArray, Sx = fun j => if h : j < ks.length then tx ks[j] else tx s := ⟨_, rfl⟩
    have h1 : ∀ j (h : j < ks.length), Sx j = tx ks[j] := fun j h => by rw [hSx]; exact dif_pos h
    have h2 : ∀ j, n ≤ j → Sx j = tx s := fun j h => by rw [hSx]; exact dif_neg (by omega)
    have hf := found hr hn s Sx h1 h2
    have cB := Try.slices_BinarySearch_string g off n c Sx (tx s) w (by omega) (fun j hj => by rw [h1 j (by omega)]; exact hc j (by omega))
    rw [hf.1, hf.2, ← hz, ← hP, ← hBm] at cB
    clear hf h1 h2 hSx hc hn hz hP hBm hk hr
    go_enter Try.func9, Try.ntmps9
    go_wp2_with fail
    refine cB.mono ?_
    rintro e w' ⟨rfl, q, hw'⟩
    rw [hw']
    clear hw'
    go_wp2_with fail
    go_returns
    exact ⟨rfl, q, rfl⟩
end
end Go.Proofs.Ytbhoknnjilidnaa.Fold
