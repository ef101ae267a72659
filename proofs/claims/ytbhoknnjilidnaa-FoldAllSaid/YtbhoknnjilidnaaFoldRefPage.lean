/- Contract of the document's Page. -/
import Derived.Test.YtbhoknnjilidnaaFoldAdd
namespace Go.Proofs.Ytbhoknnjilidnaa.Fold
open Go.Proofs.Ytbhoknnjilidnaa.Mem
open Go.ChangeShapes Go.WideShapes Go.ChangeAt Go.RowKit
open Go.Proofs (encStr)
set_option linter.unusedVariables false
set_option linter.unusedSimpArgs false
section
variable {w : World} {a : Option Addr} {ks : List K} {c B : Nat} {v : Value}
theorem filter_step {ks : List K} {p : K → Bool} {i : Nat} (h : i < ks.length) : (ks.take (i + 1)).filter p = (ks.take i).filter p ++ if p ks[i] = true then [ks[i]] else [] := by
  rw [List.take_succ_eq_append_getElem h, List.filter_append]
  congr 1
  by_cases hp : p ks[i] = true
  · rw [if_pos hp]; simp [hp]
  · rw [if_neg hp]; simp [hp]
structure RefAt (w : World) (ks : List K) (after : K) (first : Bool) (i : Nat) (v : Value) (wr : World) : Prop where
  own : KOwn wr w.heap.size v (adds [] ((ks.take i).filter (behind after first)))
  below : Below w.heap.size w wr
theorem RefAt.ris {w wr : World} {after : K} {first : Bool} {i : Nat} (h : RefAt w ks after first i v wr) : Ris (adds [] ((ks.take i).filter (behind after first))) := (adds_ris _ (by simp [Ris])).1
theorem RefAt.few {w wr : World} {after : K} {first : Bool} {i : Nat} (h : RefAt w ks after first i v wr) : (adds [] ((ks.take i).filter (behind after first))).length ≤ i := by
  have h1 := adds_length ((ks.take i).filter (behind after first)) []
  have h2 := List.length_filter_le (behind after first) (ks.take i)
  have h3 : (ks.take i).length ≤ i := by rw [List.length_take]; omega
  have h4 : ([] : List K).length = 0 := rfl
  omega
set_option maxRecDepth 100000 in
set_option maxHeartbeats 2000000 in
theorem refPage_any (hk : Ks w a ks) (hl : ks.length ≤ 1000) (after : K) (first : Bool) (many : Int) (hm : many ≤ 9223372036854775807) :
    Calls Try.prog 8 #[.slice a ks.length c, .string (tx after), .bool first, .int .i64 many] w fun e w' => ∃ v, e = .returned (.tuple #[v, .bool (decide (many.toNat < (rest ks after first).length))]) ∧ KOwn w' w.heap.size v ((rest ks after first).take many.toNat) ∧ Below w.heap.size w w' := by
  obtain ⟨n, hn⟩ : ∃ n, n = ks.length := ⟨_, rfl⟩
  have HK := Lib.hid hk
  rw [← hn] at hl ⊢
  have HN := Lib.hid hn
  obtain ⟨z, hz⟩ : ∃ z, z = tx after := ⟨_, rfl⟩
  rw [← hz]
  have HZ := Lib.hid hz
  obtain ⟨R, hR⟩ : ∃ R, R = rest ks after first := ⟨_, rfl⟩
  obtain ⟨nR, hnR⟩ : ∃ n, n = R.length := ⟨_, rfl⟩
  obtain ⟨m, hmm⟩ : ∃ m, m = many.toNat := ⟨_, rfl⟩
  rw [← hR, ← hmm, ← hnR]
  have HRR := Lib.hid hR
  have HNR := Lib.hid hnR
  have HM := Lib.hid hmm
  clear hR hnR hmm
  have HS := Lib.hid (show RefAt w ks after first 0 (.slice none 0 0) w from ⟨KOwn.nil w _, Below.refl _ w⟩)
  clear hk hn hz
  go_enter Try.func8, Try.ntmps8
  go_wp2_with fail
  go_loopw [10, 11] (fun v u wr => ∃ i : Nat, u = .int .i64 (i : Int) ∧ i ≤ n ∧ RefAt w ks after first i v wr) (fun _ u _ => n - (intOf u).toNat)
  case atStart => exact ⟨0, rfl, by omega, HS.out⟩
  case round =>
    clear HS
    obtain ⟨i, rfl, hi, hR⟩ := hrel
    have HR := Lib.hid hR
    clear hR
    by_cases hlt : i < n
    · have hi2 : i < ks.length := by rw [← HN.out]; exact hlt
      obtain ⟨b, off, rfl, hb, hc⟩ := HK.out (by omega)
      have hbz := HR.out.below.size
      obtain ⟨y, hy⟩ : ∃ y, y = tx ks[i] := ⟨_, rfl⟩
      have c0 : wr.cell? ⟨b, off + i, none⟩ = some (.string y) := by rw [hy]; exact (HR.out.below.cell (p := ⟨b, off + i, none⟩) hb).trans (hc i hi2)
      have HY := Lib.hid hy
      clear hc hy
      have hstep := filter_step (p := behind after first) hi2
      by_cases hbe : behind after first ks[i] = true
      · rw [if_pos hbe] at hstep
        have HST := Lib.hid hstep
        have cA := add_any HR.out.own hbz HR.out.ris (Nat.le_trans HR.out.few (by omega)) ks[i]
        obtain ⟨av, cv, hv, _⟩ := HR.out.own.slice
        have HV := Lib.hid hv
        rw [← HY.out] at cA
        have HCA := Lib.hid cA
        clear hv hstep cA
        cases first
        · have hbe2 : after < ks[i] := by simpa [behind] using hbe
          have t1 : (!(Op.bytesLess y.toList z.toList || y.toList == z.toList)) = true := by rw [HY.out, HZ.out, more_tx]; exact decide_eq_true hbe2
          go_wp2_with fail
          refine HCA.out.mono ?_
          rintro e w2 ⟨v2, rfl, ho2, hb2⟩
          have HE := Lib.hid (show RefAt w ks after false (i + 1) v2 w2 from ⟨by rw [HST.out, adds_snoc]; exact ho2, HR.out.below.trans (hb2.mono hbz)⟩)
          clear ho2 hb2
          go_wp2_with fail
          go_roundw
          case rel => exact ⟨i + 1, by simp, by omega, HE.out⟩
          case measure => simp [intOf]; omega
        · go_wp2_with fail
          refine HCA.out.mono ?_
          rintro e w2 ⟨v2, rfl, ho2, hb2⟩
          have HE := Lib.hid (show RefAt w ks after true (i + 1) v2 w2 from ⟨by rw [HST.out, adds_snoc]; exact ho2, HR.out.below.trans (hb2.mono hbz)⟩)
          clear ho2 hb2
          go_wp2_with fail
          go_roundw
          case rel => exact ⟨i + 1, by simp, by omega, HE.out⟩
          case measure => simp [intOf]; omega
      · rw [if_neg hbe] at hstep
        have HST := Lib.hid hstep
        clear hstep
        cases first
        · have hbe2 : ¬ after < ks[i] := by simpa [behind] using hbe
          have t1 : (!(Op.bytesLess y.toList z.toList || y.toList == z.toList)) = false := by rw [HY.out, HZ.out, more_tx]; exact decide_eq_false hbe2
          go_wp2_with fail
          go_roundw
          case rel => exact ⟨i + 1, by simp, by omega, ⟨by rw [HST.out, List.append_nil]; exact HR.out.own, HR.out.below⟩⟩
          case measure => simp [intOf]; omega
        · exact absurd rfl hbe
    · have hin : i = n := by omega
      subst hin
      have htk : ks.take i = ks := by rw [HN.out]; exact List.take_length
      have hO := HR.out.own
      rw [htk, adds_rest, ← HRR.out] at hO
      have hRl : R.length ≤ i := by rw [HRR.out, HN.out]; exact rest_length ks after first
      clear htk
      obtain ⟨av, cv, rfl, hks, hnc, hcm, hnil, hat⟩ := hO.slice
      rw [← HNR.out] at hO hnc hRl ⊢
      have hnR := HNR.out
      by_cases hneg : many < 0
      · have hm0 : m = 0 := by have := HM.out; omega
        subst hm0
        have t0 : decide (many < 0) = true := decide_eq_true hneg
        by_cases hmr : 0 < nR
        · obtain ⟨g, off, rfl, hg, _⟩ := hks (by rw [← hnR]; omega)
          have t1 : decide ((0 : Int) < (nR : Int)) = true := decide_eq_true (by omega)
          have HE := Lib.hid ((show KOwn wr w.heap.size (.slice (some ⟨g, off, none⟩) R.length cv) R from by rw [← HNR.out]; exact hO).take (m := 0) (by rw [← HNR.out]; omega))
          have hcv2 : ((0 : Nat) : Int) ≤ (cv : Int) := by omega
          have hcv3 : 0 ≤ cv := by omega
          clear hO hks hnil hat hcm hnR
          go_wp2_with fail
          go_returns
          refine ⟨_, (by first | rfl | (rw [decide_eq_true hmr]; rfl)), ?_, HR.out.below⟩
          exact HE.out
        · have t1 : decide ((0 : Int) < (nR : Int)) = false := decide_eq_false (by omega)
          have HE := Lib.hid (show KOwn wr w.heap.size (.slice av nR cv) (R.take 0) from by rw [List.take_of_length_le (by omega)]; exact hO)
          clear hO hks hnil hat hcm hnR
          go_wp2_with fail
          go_returns
          refine ⟨_, (by first | rfl | (rw [decide_eq_false hmr]; rfl)), ?_, HR.out.below⟩
          exact HE.out
      · have t0 : decide (many < 0) = false := decide_eq_false hneg
        obtain rfl : many = (m : Int) := by have := HM.out; omega
        by_cases hmr : m < nR
        · obtain ⟨g, off, rfl, hg, _⟩ := hks (by rw [← hnR]; omega)
          have t1 : decide ((m : Int) < (nR : Int)) = true := decide_eq_true (by omega)
          have HE := Lib.hid ((show KOwn wr w.heap.size (.slice (some ⟨g, off, none⟩) R.length cv) R from by rw [← HNR.out]; exact hO).take (m := m) (by rw [← HNR.out]; omega))
          have hcv2 : ((m : Nat) : Int) ≤ (cv : Int) := by omega
          have hcv3 : m ≤ cv := by omega
          clear hO hks hnil hat hcm hnR
          go_wp2_with fail
          go_returns
          refine ⟨_, (by first | rfl | (rw [decide_eq_true hmr]; rfl)), ?_, HR.out.below⟩
          exact HE.out
        · have t1 : decide ((m : Int) < (nR : Int)) = false := decide_eq_false (by omega)
          have HE := Lib.hid (show KOwn wr w.heap.size (.slice av nR cv) (R.take m) from by rw [List.take_of_length_le (by omega)]; exact hO)
          clear hO hks hnil hat hcm hnR
          go_wp2_with fail
          go_returns
          refine ⟨_, (by first | rfl | (rw [decide_eq_false hmr]; rfl)), ?_, HR.out.below⟩
          exact HE.out
end
end Go.Proofs.Ytbhoknnjilidnaa.Fold
