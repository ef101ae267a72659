/- FoldAll walked. MADE BY gen-all.py -/
import Derived.Test.YtbhoknnjilidnaaFoldPagesA
import Derived.Laws.Cover1
namespace Go.Proofs.Ytbhoknnjilidnaa.Fold
open Go.Proofs.Ytbhoknnjilidnaa.Mem
open Go.ChangeShapes Go.WideShapes Go.ChangeAt Go.RowKit
open Go.Proofs (encStr)
set_option linter.unusedVariables false
set_option linter.unusedSimpArgs false
def aft (R : List K) (d : Nat) : K := if d = 0 then [] else R.getD (d - 1) []
theorem rest_drop {ks : List K} {i d : Nat} (h : i = 0 ∧ d = 0 ∨ 0 < i ∧ i ≤ d ∧ d < (rest ks [] true).length) : rest ks (aft (rest ks [] true) d) (decide (i = 0)) = (rest ks [] true).drop d := by
  rcases h with ⟨rfl, rfl⟩ | ⟨h0, h1, h2⟩
  · rfl
  · rw [decide_eq_false (by omega)]
    unfold aft
    rw [if_neg (by omega), ← rest_next (m := d) (by omega) h2]
    congr 1
    simp [List.getD, show d - 1 < (rest ks [] true).length by omega]
theorem aft_some {R : List K} {d : Nat} (h0 : 0 < d) (h : d ≤ R.length) : aft R d = R[d - 1]'(by omega) := by
  unfold aft
  rw [if_neg (by omega)]
  simp [List.getD, show d - 1 < R.length by omega]
structure AllIn (w : World) (R T : List K) (d k : Nat) (al : Option Addr) (v : Value) (wr : World) : Prop where
  own : KOwn wr w.heap.size v (R.take (d + k))
  below : Below w.heap.size w wr
  ks : Ks wr al T
  off : ∀ q, al = some q → q.block < wr.heap.size ∧ v.ownBlock ≠ some q.block
theorem AllIn.draw {w wr : World} {R T : List K} {d k : Nat} {al : Option Addr} {v : Value} (h : AllIn w R T d k al v wr) (q : Nat) : AllIn w R T d k al v (wr.drewN q) :=
  ⟨h.own.new (draw_below (Below.refl _ wr) q), draw_below h.below q, h.ks.draw q, h.off⟩
theorem Ks.but {S : Nat → Prop} {w w' : World} {a : Option Addr} {ks : List K} (h : Ks w a ks) (hb : But S w w') (hs : ∀ q, a = some q → ¬ S q.block) : Ks w' a ks := fun hn => by
  obtain ⟨b, off, ha, hlt, hc⟩ := h hn
  exact ⟨b, off, ha, Nat.lt_of_lt_of_le hlt hb.size, fun i hi => (hb.cell (p := ⟨b, off + i, none⟩) hlt (hs ⟨b, off, none⟩ ha)).trans (hc i hi)⟩
section
variable {w : World} {a : Option Addr} {ks : List K} {c : Nat}
set_option maxRecDepth 100000 in
set_option maxHeartbeats 8000000 in
theorem all_any (hk : Ks w a ks) (hl : ks.length ≤ 9223372036854775807) (many : Int) (hm : many ≤ 9223372036854775807) :
    Calls Try.prog 4 #[.slice a ks.length c, .int .i64 many] w fun e w' => e = .returned (.bool true) ∧ Below w.heap.size w w' := by
  obtain ⟨i0, hi0, hz⟩ := Option.map_eq_some_iff.1 str_info
  simp only [Prod.mk.injEq] at hz
  obtain ⟨hz0, hz1, hz2⟩ := hz
  have HK := Lib.hid hk
  obtain ⟨n, hn⟩ : ∃ n, n = ks.length := ⟨_, rfl⟩
  rw [← hn] at hl
  rw [← hn]
  have HN := Lib.hid hn
  clear hk hn
  go_enter Try.func4, Try.ntmps4
  go_wp2_with fail
  refine (up_any w).mono ?_
  rintro e w1 ⟨rfl, hb1⟩
  have HB1 := Lib.hid hb1
  clear hb1
  have cS := small_any (c := c) (HK.out.below HB1.out) (by rw [← HN.out]; exact hl)
  rw [← HN.out] at cS
  by_cases hsm : (∀ k ∈ ks, k.length ≤ 200) ∧ n ≤ 200
  · rw [decide_eq_true hsm] at cS
    have HSM := Lib.hid hsm
    clear hsm
    go_wp2_with fail
    refine cS.mono ?_
    rintro e w' ⟨rfl, hw'⟩
    rw [hw']
    clear hw' cS
    by_cases hlo : many < 1
    · have t1 : decide (many < 1) = true := decide_eq_true hlo
      go_wp2_with fail
      go_ret
      exact ⟨rfl, HB1.out⟩
    have t1 : decide (many < 1) = false := decide_eq_false hlo
    by_cases hhi : 1000 < many
    · have t2 : decide (1000 < many) = true := decide_eq_true hhi
      go_wp2_with fail
      go_ret
      exact ⟨rfl, HB1.out⟩
    have t2 : decide (1000 < many) = false := decide_eq_false hhi
    obtain ⟨m, rfl⟩ : ∃ m : Nat, many = (m : Int) := ⟨many.toNat, by omega⟩
    have HM := Lib.hid (show 1 ≤ m ∧ m ≤ 1000 by omega)
    have t3 : decide (m < 1) = false := decide_eq_false (by omega)
    have t4 : decide (1000 < m) = false := decide_eq_false (by omega)
    obtain ⟨R, hR⟩ : ∃ R, R = rest ks [] true := ⟨_, rfl⟩
    obtain ⟨nR, hnR⟩ : ∃ n, n = R.length := ⟨_, rfl⟩
    have hRn : nR ≤ n := by rw [hnR, hR, HN.out]; exact rest_length ks [] true
    have hRr : Ris R := by rw [hR]; exact (rest_ris ks [] true).1
    have hRm : ∀ x ∈ ks, x ∈ R := fun x hx => by rw [hR]; exact ((rest_ris ks [] true).2 x).2 ⟨hx, rfl⟩
    have HR := Lib.hid (And.intro hR (And.intro hnR (And.intro hRr (And.intro hRm hRn))))
    clear hR hnR hRr hRm hRn hlo hhi
    go_wp2_with fail
    go_loopw [6, 7, 8] (fun u x y wr => ∃ i d : Nat, y = .int .i64 (i : Int) ∧ (i = 0 ∧ d = 0 ∨ 0 < i ∧ i ≤ d ∧ d < nR) ∧ x = .string (tx (aft R d)) ∧ KOwn wr w.heap.size u (R.take d) ∧ Below w.heap.size w wr) (fun _ _ y _ => n + 1 - (intOf y).toNat)
    case atStart => exact ⟨0, 0, rfl, .inl ⟨rfl, rfl⟩, rfl, KOwn.nil _ _, HB1.out⟩
    case round =>
      obtain ⟨i, d, rfl, hid_, rfl, hO, hB⟩ := hrel
      have HID := Lib.hid hid_
      have hin : i ≤ n := by have := HR.out.2.2.2.2; omega
      have hdn : d ≤ nR := by omega
      clear hid_ t1 t2 t3 t4
      obtain ⟨fb, hfb⟩ : ∃ b, b = decide (i = 0) := ⟨_, rfl⟩
      have s1 : decide ((i : Int) = 0) = fb := by rw [hfb]; exact decide_eq_decide.2 (by omega)
      have s2 : ((i : Int) == 0) = fb := by rw [← s1]; rfl
      have s3 : (i == 0) = fb := by rw [hfb]; rfl
      have cP := page_any (c := c) (HK.out.below hB) (by rw [← HN.out]; have := HSM.out.2; omega) (aft R d) fb (m : Int) (by omega)
      have hrd : rest ks (aft R d) fb = R.drop d := by rw [hfb, HR.out.1]; exact rest_drop (by rw [← HR.out.1, ← HR.out.2.1]; exact HID.out)
      rw [hrd, ← HN.out, Int.toNat_natCast, List.length_drop, ← HR.out.2.1] at cP
      obtain ⟨T, hT⟩ : ∃ T, T = (R.drop d).take m := ⟨_, rfl⟩
      obtain ⟨nT, hnT⟩ : ∃ n, n = T.length := ⟨_, rfl⟩
      obtain ⟨mo, hmo⟩ : ∃ b, b = decide (m < nR - d) := ⟨_, rfl⟩
      rw [← hT, ← hmo] at cP
      have hnT2 : nT = min m (nR - d) := by rw [hnT, hT, List.length_take, List.length_drop, ← HR.out.2.1]
      have hTg : ∀ k (h : k < T.length) (h2 : d + k < R.length), T[k] = R[d + k] := fun k h h2 => by
        subst hT
        rw [List.getElem_take, List.getElem_drop]
      obtain ⟨x, hx⟩ : ∃ x, x = tx (aft R d) := ⟨_, rfl⟩
      rw [← hx] at cP ⊢
      have HT := Lib.hid (And.intro hnT (And.intro hnT2 (And.intro hTg hmo)))
      have hT1 : nT ≤ m := by omega
      have hT2 : d + nT ≤ nR := by omega
      have HMO := Lib.hid (show (mo = true → nT = m ∧ d + m < nR) ∧ (mo = false → d + nT = nR) from by
        rw [hmo]
        refine ⟨fun h => ?_, fun h => ?_⟩
        · have := of_decide_eq_true h; omega
        · have := of_decide_eq_false h; omega)
      have HO := Lib.hid (And.intro hO hB)
      clear hrd hT hmo hnT2 hTg hx hfb hnT hO hB
      have hi_ : decide ((i : Int) ≤ (n : Int)) = true := decide_eq_true (by omega)
      go_wp2_with fail
      refine cP.mono ?_
      rintro e w2 ⟨v2, rfl, hO2, hb2⟩
      clear cP
      obtain ⟨al, cl, rfl, hks2, hnc2, hcm2, hnil2, hat2⟩ := hO2.slice
      rw [← HT.out.1]
      have HA := Lib.hid (show AllIn w R T d 0 al u6 w2 from ⟨by rw [Nat.add_zero]; exact HO.out.1.new hb2, HO.out.2.trans (hb2.mono HO.out.2.size), hks2, fun q hq => ⟨(hat2 q hq).2.1, fun e => by have h1 := (HO.out.1.lt _ e).2; have h2 := (hat2 q hq).1; omega⟩⟩)
      clear hO2 hb2 hks2 hnc2 hcm2 hnil2 hat2 s1 s2 s3
      have t5 : decide ((m : Int) < (nT : Int)) = false := decide_eq_false (by omega)
      have t5b : decide (m < nT) = false := decide_eq_false (by omega)
      rcases mo with _ | _
      · skip
        go_wp2_with fail
        go_loopw [6, 11] (fun u y wr => ∃ k : Nat, y = .int .i64 (k : Int) ∧ k ≤ nT ∧ AllIn w R T d k al u wr) (fun _ y _ => nT - (intOf y).toNat)
        case atStart => exact ⟨0, rfl, by omega, HA.out⟩
        case round =>
          obtain ⟨k, rfl, hk, hI⟩ := hrel
          have HI := Lib.hid hI
          clear hI HA
          have hdl : (R.take (d + k)).length = d + k := by rw [List.length_take, ← HR.out.2.1]; omega
          obtain ⟨av, cv, hv, hksv, _⟩ := HI.out.own.slice
          obtain ⟨D, hD⟩ : ∃ D, D = d + k := ⟨_, rfl⟩
          rw [hdl, ← hD] at hv
          subst hv
          have HDL := Lib.hid (show (R.take (d + k)).length = D by rw [hdl, ← hD])
          have HDD := Lib.hid hD
          have hDb : D ≤ 1000 := by have h1 := HSM.out.2; have h2 := HR.out.2.2.2.2; omega
          clear hdl hD
          by_cases hlt : k < nT
          · have hdk : d + k < nR := by omega
            obtain ⟨gl, ol, rfl, hgl, hcl⟩ := HI.out.ks (by rw [← HT.out.1]; omega)
            have c0 := hcl k (by rw [← HT.out.1]; exact hlt)
            rw [HT.out.2.2.1 k (by rw [← HT.out.1]; exact hlt) (by rw [← HR.out.2.1]; omega)] at c0
            obtain ⟨y, hy⟩ : ∃ y, y = tx (R[d + k]'(by rw [← HR.out.2.1]; omega)) := ⟨_, rfl⟩
            rw [← hy] at c0
            have HY := Lib.hid hy
            clear hcl
            by_cases hD0 : D = 0
            · have t6 : decide ((0 : Int) < (D : Int)) = false := decide_eq_false (by omega)
              have t6b : decide (0 < D) = false := decide_eq_false (by omega)
              clear hksv hy hD0
              have hal := (Below.refl wr.heap.size wr).alloc (Nat.le_refl _) (.cells #[.string y] 9)
              obtain ⟨W1, hW1⟩ : ∃ V, V = wr.alloc (.cells #[.string y] 9) := ⟨_, rfl⟩
              rw [← hW1] at hal
              have HW1 := Lib.hid hW1
              have H1 := Lib.hid (And.intro hal (And.intro (show W1.ownsRow w.heap.size 9 1 (.slice av D cv) D (kcells (R.take (d + k))) by have := HI.out.own.new hal; unfold KOwn at this; rw [HDL.out] at this; exact this) (show Sees W1 1 (.slice (some ⟨wr.heap.size, 0, none⟩) 1 1) 1 [.string y] by rw [hW1]; exact sees_one _ _ _ _)))
              clear hal hW1
              go_wp2_with (at_builtin; revert HW1)
              intro HW1
              change wpList _ _ _ _ _ (wr.alloc (.cells #[.string y] 9))
              rw [← HW1.out]
              refine wpList_append_onto rfl _ _ _ rfl w.heap.size 9 i0 _ 1 16 Try.underlying22 hi0 hz0 hz1 hz2 rfl (by omega) (.slice av D cv) D (kcells (R.take (d + k))) rfl H1.out.2.1 (.slice (some ⟨wr.heap.size, 0, none⟩) 1 1) 1 [.string y] rfl H1.out.2.2 (fun u hu => by rw [List.mem_singleton.1 hu]; rfl) (by unfold maxLen; omega) (by omega) (by have h1 := HI.out.below.size; have h2 := H1.out.1.size; omega) ?_
              intro v3 w3 ho3 hon3
              have HE := Lib.hid (show AllIn w R T d (k + 1) (some ⟨gl, ol, none⟩) v3 w3 from by
                have htk : R.take (d + (k + 1)) = R.take (d + k) ++ [R[d + k]'(by rw [← HR.out.2.1]; omega)] := by
                  rw [← Nat.add_assoc, List.take_succ_eq_append_getElem (by rw [← HR.out.2.1]; omega)]
                refine ⟨?_, ?_, ?_, fun q hq => ?_⟩
                · unfold KOwn
                  rw [htk, List.length_append, kcells_app, HDL.out, show kcells [R[d + k]'(by rw [← HR.out.2.1]; omega)] = [.string y] by rw [HY.out]; rfl]
                  exact ho3
                · exact HI.out.below.trans ((H1.out.1.mono HI.out.below.size).trans (hon3.below H1.out.2.1 (by have h1 := HI.out.below.size; have h2 := H1.out.1.size; omega)))
                · exact (HI.out.ks.below H1.out.1).but hon3.but (fun q hq e => (HI.out.off q hq).2 e.symm)
                · have h1 := HI.out.off q hq
                  have h2 := H1.out.1.size
                  have h3 := hon3.grown.size
                  refine ⟨by omega, fun e => ?_⟩
                  rcases hon3.own with h4 | h4
                  · exact h1.2 (by rw [← h4]; exact e)
                  · have := h4 _ e; omega)
              clear ho3 hon3
              go_wp2_with fail
              go_roundw
              case rel => exact ⟨k + 1, by simp, by omega, HE.out⟩
              case measure => simp [intOf]; omega
            · have t6 : decide ((0 : Int) < (D : Int)) = true := decide_eq_true (by omega)
              have t6b : decide (0 < D) = true := decide_eq_true (by omega)
              obtain ⟨ga, oa, rfl, hga, hca⟩ := hksv (by rw [HDL.out]; omega)
              have c1 := hca (D - 1) (by rw [HDL.out]; omega)
              rw [List.getElem_take] at c1
              obtain ⟨z, hz⟩ : ∃ z, z = tx (R[D - 1]'(by rw [← HR.out.2.1]; have := HDD.out; omega)) := ⟨_, rfl⟩
              rw [← hz] at c1
              have t7 : (Op.bytesLess y.toList z.toList || y.toList == z.toList) = false := by
                have h1 : R[D - 1]'(by rw [← HR.out.2.1]; have := HDD.out; omega) < R[d + k]'(by rw [← HR.out.2.1]; omega) := List.pairwise_iff_getElem.1 HR.out.2.2.1 _ _ _ _ (by have := HDD.out; omega)
                have h2 := more_tx (R[d + k]'(by rw [← HR.out.2.1]; omega)) (R[D - 1]'(by rw [← HR.out.2.1]; have := HDD.out; omega))
                rw [← hy, ← hz, decide_eq_true h1] at h2
                simpa using h2
              have hw1 : IntKind.i64.wrap ((D : Int) - 1) = ((D - 1 : Nat) : Int) := by rw [IntKind.wrap_i64]; omega
              have d0 : ∀ nq, (wr.drewN nq).cell? ⟨gl, ol + k, none⟩ = some (.string y) := fun nq => c0
              have d1 : ∀ nq, (wr.drewN nq).cell? ⟨ga, oa + (D - 1), none⟩ = some (.string z) := fun nq => c1
              clear hca hy hz c0 c1
              go_wp2_with fail
              go_quiet (fail)
              obtain ⟨W, hW⟩ : ∃ W, W = wr.drewN nq := ⟨_, rfl⟩
              have hIW := HI.out.draw nq
              have c0 := d0 nq
              rw [← hW] at hIW c0 ⊢
              clear HI d0 d1 hW t7 hw1 hksv
              have HI := Lib.hid hIW
              clear hIW
              have hal := (Below.refl W.heap.size W).alloc (Nat.le_refl _) (.cells #[.string y] 9)
              obtain ⟨W1, hW1⟩ : ∃ V, V = W.alloc (.cells #[.string y] 9) := ⟨_, rfl⟩
              rw [← hW1] at hal
              have HW1 := Lib.hid hW1
              have H1 := Lib.hid (And.intro hal (And.intro (show W1.ownsRow w.heap.size 9 1 (.slice (some ⟨ga, oa, none⟩) D cv) D (kcells (R.take (d + k))) by have := HI.out.own.new hal; unfold KOwn at this; rw [HDL.out] at this; exact this) (show Sees W1 1 (.slice (some ⟨W.heap.size, 0, none⟩) 1 1) 1 [.string y] by rw [hW1]; exact sees_one _ _ _ _)))
              clear hal hW1
              go_wp2_with (at_builtin; revert HW1)
              intro HW1
              change wpList _ _ _ _ _ (W.alloc (.cells #[.string y] 9))
              rw [← HW1.out]
              refine wpList_append_onto rfl _ _ _ rfl w.heap.size 9 i0 _ 1 16 Try.underlying22 hi0 hz0 hz1 hz2 rfl (by omega) (.slice (some ⟨ga, oa, none⟩) D cv) D (kcells (R.take (d + k))) rfl H1.out.2.1 (.slice (some ⟨W.heap.size, 0, none⟩) 1 1) 1 [.string y] rfl H1.out.2.2 (fun u hu => by rw [List.mem_singleton.1 hu]; rfl) (by unfold maxLen; omega) (by omega) (by have h1 := HI.out.below.size; have h2 := H1.out.1.size; omega) ?_
              intro v3 w3 ho3 hon3
              have HE := Lib.hid (show AllIn w R T d (k + 1) (some ⟨gl, ol, none⟩) v3 w3 from by
                have htk : R.take (d + (k + 1)) = R.take (d + k) ++ [R[d + k]'(by rw [← HR.out.2.1]; omega)] := by
                  rw [← Nat.add_assoc, List.take_succ_eq_append_getElem (by rw [← HR.out.2.1]; omega)]
                refine ⟨?_, ?_, ?_, fun q hq => ?_⟩
                · unfold KOwn
                  rw [htk, List.length_append, kcells_app, HDL.out, show kcells [R[d + k]'(by rw [← HR.out.2.1]; omega)] = [.string y] by rw [HY.out]; rfl]
                  exact ho3
                · exact HI.out.below.trans ((H1.out.1.mono HI.out.below.size).trans (hon3.below H1.out.2.1 (by have h1 := HI.out.below.size; have h2 := H1.out.1.size; omega)))
                · exact (HI.out.ks.below H1.out.1).but hon3.but (fun q hq e => (HI.out.off q hq).2 e.symm)
                · have h1 := HI.out.off q hq
                  have h2 := H1.out.1.size
                  have h3 := hon3.grown.size
                  refine ⟨by omega, fun e => ?_⟩
                  rcases hon3.own with h4 | h4
                  · exact h1.2 (by rw [← h4]; exact e)
                  · have := h4 _ e; omega)
              clear ho3 hon3
              go_wp2_with fail
              go_roundw
              case rel => exact ⟨k + 1, by simp, by omega, HE.out⟩
              case measure => simp [intOf]; omega
          · have hkn : k = nT := by omega
            subst hkn
            have hall : R.take (d + k) = R := List.take_of_length_le (by have := HMO.out.2 (by trivial); rw [← HR.out.2.1]; omega)
            have hDR : D = nR := by have := HMO.out.2 (by trivial); have := HDD.out; omega
            rw [hall] at hksv
            obtain ⟨V0, hV0⟩ : ∃ V, V = wr := ⟨_, rfl⟩
            have HB := Lib.hid (show Below w.heap.size w V0 ∧ Ks V0 av R from by rw [hV0]; exact ⟨HI.out.below, hksv⟩)
            have HV0 := Lib.hid hV0
            subst hDR
            clear HI hksv hall HDL hk hV0
            go_wp2_with fail
            go_loopw [12] (fun y wr => ∃ j : Nat, y = .int .i64 (j : Int) ∧ j ≤ n ∧ ∃ q, wr = V0.drewN q) (fun y _ => n - (intOf y).toNat)
            case atStart => exact ⟨0, rfl, by omega, 0, HV0.out.symm⟩
            case round =>
              obtain ⟨j, rfl, hj, q, hq⟩ := hrel
              have HV := Lib.hid (show ∃ q, wr = V0.drewN q from ⟨q, hq⟩)
              clear hq
              by_cases hjn : j < n
              · have hj2 : j < ks.length := by rw [← HN.out]; exact hjn
                obtain ⟨gk, ok, rfl, hgk, hck⟩ := HK.out (by omega)
                obtain ⟨z, hz⟩ : ∃ z, z = tx ks[j] := ⟨_, rfl⟩
                have c1 : V0.cell? ⟨gk, ok + j, none⟩ = some (.string z) := by rw [hz]; exact (HB.out.1.cell (p := ⟨gk, ok + j, none⟩) hgk).trans (hck j hj2)
                have HC1 := Lib.hid (And.intro c1 hz)
                clear hck c1 hz
                go_wp2_with fail
                go_loopw [13, 14] (fun u y wr => ∃ l : Nat, y = .int .i64 (l : Int) ∧ l ≤ D ∧ u = .bool (mets R ks[j] l) ∧ ∃ q, wr = V0.drewN q) (fun _ y _ => D - (intOf y).toNat)
                case atStart => exact ⟨0, rfl, by omega, by simp [mets], HV.out⟩
                case round =>
                  obtain ⟨l, rfl, hl2, rfl, q2, hq2⟩ := hrel
                  have HX := Lib.hid (show ∃ q, wr = V0.drewN q from ⟨q2, hq2⟩)
                  by_cases hlD : l < D
                  · have hlR : l < R.length := by rw [← HR.out.2.1]; exact hlD
                    obtain ⟨ga, oa, rfl, hga, hca⟩ := HB.out.2 (by omega)
                    obtain ⟨y, hy⟩ : ∃ y, y = tx R[l] := ⟨_, rfl⟩
                    have c0 : ∀ nq, (wr.drewN nq).cell? ⟨ga, oa + l, none⟩ = some (.string y) := fun nq => by rw [hq2, hy]; exact hca l hlR
                    have c1 : ∀ nq, (wr.drewN nq).cell? ⟨gk, ok + j, none⟩ = some (.string z) := fun nq => by rw [hq2]; exact HC1.out.1
                    obtain ⟨b2, hb2⟩ : ∃ b, b = decide (R[l] = ks[j]) := ⟨_, rfl⟩
                    have t9 : (y.toList == z.toList) = b2 := by rw [hy, HC1.out.2, same_tx, hb2]
                    have hst := mets_step (s := ks[j]) hlR
                    rw [← hb2] at hst
                    obtain ⟨m0, hm0⟩ : ∃ b, b = mets R ks[j] l := ⟨_, rfl⟩
                    rw [← hm0] at hst ⊢
                    have HST := Lib.hid hst
                    clear hca hy hb2 hst hm0 hq2
                    rcases m0 with _ | _ <;> rcases b2 with _ | _
                    all_goals
                      go_wp2_with fail
                      go_quiet (fail)
                      obtain ⟨Y, hY⟩ : ∃ Y, Y = wr.drewN nq := ⟨_, rfl⟩
                      rw [← hY]
                      have HY := Lib.hid (show ∃ q, Y = V0.drewN q from by obtain ⟨q, hq⟩ := HX.out; exact ⟨q + nq, by rw [hY, hq, World.drewN_drewN]⟩)
                      clear c0 c1 hY
                      go_wp2_with fail
                      go_roundw
                      case rel => exact ⟨l + 1, by simp, by omega, by rw [HST.out]; rfl, HY.out⟩
                      case measure => simp [intOf]; omega
                  · have hlD2 : l = D := by omega
                    subst hlD2
                    have hmt : mets R ks[j] l = true := by
                      unfold mets
                      rw [HR.out.2.1, List.take_length]
                      exact decide_eq_true (HR.out.2.2.2.1 _ (List.getElem_mem hj2))
                    rw [hmt]
                    clear hmt hq2
                    go_wp2_with fail
                    go_roundw
                    case rel => exact ⟨j + 1, by simp, by omega, HX.out⟩
                    case measure => simp [intOf]; omega
              · have hjn2 : j = n := by omega
                subst hjn2
                go_wp2_with fail
                go_ret
                obtain ⟨q, hq⟩ := HV.out
                refine ⟨rfl, ?_⟩
                rw [hq]
                exact draw_below HB.out.1 _
      · have t8 : (((nT : Int)) != (m : Int)) = false := by have := (HMO.out.1 (by trivial)).1; simp [this]
        have t8b : nT = m := (HMO.out.1 (by trivial)).1
        have t8c : (nT != m) = false := by simp [t8b]
        have T8 := Lib.hid t8b
        clear t8b
        go_wp2_with fail
        go_loopw [6, 11] (fun u y wr => ∃ k : Nat, y = .int .i64 (k : Int) ∧ k ≤ nT ∧ AllIn w R T d k al u wr) (fun _ y _ => nT - (intOf y).toNat)
        case atStart => exact ⟨0, rfl, by omega, HA.out⟩
        case round =>
          obtain ⟨k, rfl, hk, hI⟩ := hrel
          have HI := Lib.hid hI
          clear hI HA
          have hdl : (R.take (d + k)).length = d + k := by rw [List.length_take, ← HR.out.2.1]; omega
          obtain ⟨av, cv, hv, hksv, _⟩ := HI.out.own.slice
          obtain ⟨D, hD⟩ : ∃ D, D = d + k := ⟨_, rfl⟩
          rw [hdl, ← hD] at hv
          subst hv
          have HDL := Lib.hid (show (R.take (d + k)).length = D by rw [hdl, ← hD])
          have HDD := Lib.hid hD
          have hDb : D ≤ 1000 := by have h1 := HSM.out.2; have h2 := HR.out.2.2.2.2; omega
          clear hdl hD
          by_cases hlt : k < nT
          · have hdk : d + k < nR := by omega
            obtain ⟨gl, ol, rfl, hgl, hcl⟩ := HI.out.ks (by rw [← HT.out.1]; omega)
            have c0 := hcl k (by rw [← HT.out.1]; exact hlt)
            rw [HT.out.2.2.1 k (by rw [← HT.out.1]; exact hlt) (by rw [← HR.out.2.1]; omega)] at c0
            obtain ⟨y, hy⟩ : ∃ y, y = tx (R[d + k]'(by rw [← HR.out.2.1]; omega)) := ⟨_, rfl⟩
            rw [← hy] at c0
            have HY := Lib.hid hy
            clear hcl
            by_cases hD0 : D = 0
            · have t6 : decide ((0 : Int) < (D : Int)) = false := decide_eq_false (by omega)
              have t6b : decide (0 < D) = false := decide_eq_false (by omega)
              clear hksv hy hD0
              have hal := (Below.refl wr.heap.size wr).alloc (Nat.le_refl _) (.cells #[.string y] 9)
              obtain ⟨W1, hW1⟩ : ∃ V, V = wr.alloc (.cells #[.string y] 9) := ⟨_, rfl⟩
              rw [← hW1] at hal
              have HW1 := Lib.hid hW1
              have H1 := Lib.hid (And.intro hal (And.intro (show W1.ownsRow w.heap.size 9 1 (.slice av D cv) D (kcells (R.take (d + k))) by have := HI.out.own.new hal; unfold KOwn at this; rw [HDL.out] at this; exact this) (show Sees W1 1 (.slice (some ⟨wr.heap.size, 0, none⟩) 1 1) 1 [.string y] by rw [hW1]; exact sees_one _ _ _ _)))
              clear hal hW1
              go_wp2_with (at_builtin; revert HW1)
              intro HW1
              change wpList _ _ _ _ _ (wr.alloc (.cells #[.string y] 9))
              rw [← HW1.out]
              refine wpList_append_onto rfl _ _ _ rfl w.heap.size 9 i0 _ 1 16 Try.underlying22 hi0 hz0 hz1 hz2 rfl (by omega) (.slice av D cv) D (kcells (R.take (d + k))) rfl H1.out.2.1 (.slice (some ⟨wr.heap.size, 0, none⟩) 1 1) 1 [.string y] rfl H1.out.2.2 (fun u hu => by rw [List.mem_singleton.1 hu]; rfl) (by unfold maxLen; omega) (by omega) (by have h1 := HI.out.below.size; have h2 := H1.out.1.size; omega) ?_
              intro v3 w3 ho3 hon3
              have HE := Lib.hid (show AllIn w R T d (k + 1) (some ⟨gl, ol, none⟩) v3 w3 from by
                have htk : R.take (d + (k + 1)) = R.take (d + k) ++ [R[d + k]'(by rw [← HR.out.2.1]; omega)] := by
                  rw [← Nat.add_assoc, List.take_succ_eq_append_getElem (by rw [← HR.out.2.1]; omega)]
                refine ⟨?_, ?_, ?_, fun q hq => ?_⟩
                · unfold KOwn
                  rw [htk, List.length_append, kcells_app, HDL.out, show kcells [R[d + k]'(by rw [← HR.out.2.1]; omega)] = [.string y] by rw [HY.out]; rfl]
                  exact ho3
                · exact HI.out.below.trans ((H1.out.1.mono HI.out.below.size).trans (hon3.below H1.out.2.1 (by have h1 := HI.out.below.size; have h2 := H1.out.1.size; omega)))
                · exact (HI.out.ks.below H1.out.1).but hon3.but (fun q hq e => (HI.out.off q hq).2 e.symm)
                · have h1 := HI.out.off q hq
                  have h2 := H1.out.1.size
                  have h3 := hon3.grown.size
                  refine ⟨by omega, fun e => ?_⟩
                  rcases hon3.own with h4 | h4
                  · exact h1.2 (by rw [← h4]; exact e)
                  · have := h4 _ e; omega)
              clear ho3 hon3
              go_wp2_with fail
              go_roundw
              case rel => exact ⟨k + 1, by simp, by omega, HE.out⟩
              case measure => simp [intOf]; omega
            · have t6 : decide ((0 : Int) < (D : Int)) = true := decide_eq_true (by omega)
              have t6b : decide (0 < D) = true := decide_eq_true (by omega)
              obtain ⟨ga, oa, rfl, hga, hca⟩ := hksv (by rw [HDL.out]; omega)
              have c1 := hca (D - 1) (by rw [HDL.out]; omega)
              rw [List.getElem_take] at c1
              obtain ⟨z, hz⟩ : ∃ z, z = tx (R[D - 1]'(by rw [← HR.out.2.1]; have := HDD.out; omega)) := ⟨_, rfl⟩
              rw [← hz] at c1
              have t7 : (Op.bytesLess y.toList z.toList || y.toList == z.toList) = false := by
                have h1 : R[D - 1]'(by rw [← HR.out.2.1]; have := HDD.out; omega) < R[d + k]'(by rw [← HR.out.2.1]; omega) := List.pairwise_iff_getElem.1 HR.out.2.2.1 _ _ _ _ (by have := HDD.out; omega)
                have h2 := more_tx (R[d + k]'(by rw [← HR.out.2.1]; omega)) (R[D - 1]'(by rw [← HR.out.2.1]; have := HDD.out; omega))
                rw [← hy, ← hz, decide_eq_true h1] at h2
                simpa using h2
              have hw1 : IntKind.i64.wrap ((D : Int) - 1) = ((D - 1 : Nat) : Int) := by rw [IntKind.wrap_i64]; omega
              have d0 : ∀ nq, (wr.drewN nq).cell? ⟨gl, ol + k, none⟩ = some (.string y) := fun nq => c0
              have d1 : ∀ nq, (wr.drewN nq).cell? ⟨ga, oa + (D - 1), none⟩ = some (.string z) := fun nq => c1
              clear hca hy hz c0 c1
              go_wp2_with fail
              go_quiet (fail)
              obtain ⟨W, hW⟩ : ∃ W, W = wr.drewN nq := ⟨_, rfl⟩
              have hIW := HI.out.draw nq
              have c0 := d0 nq
              rw [← hW] at hIW c0 ⊢
              clear HI d0 d1 hW t7 hw1 hksv
              have HI := Lib.hid hIW
              clear hIW
              have hal := (Below.refl W.heap.size W).alloc (Nat.le_refl _) (.cells #[.string y] 9)
              obtain ⟨W1, hW1⟩ : ∃ V, V = W.alloc (.cells #[.string y] 9) := ⟨_, rfl⟩
              rw [← hW1] at hal
              have HW1 := Lib.hid hW1
              have H1 := Lib.hid (And.intro hal (And.intro (show W1.ownsRow w.heap.size 9 1 (.slice (some ⟨ga, oa, none⟩) D cv) D (kcells (R.take (d + k))) by have := HI.out.own.new hal; unfold KOwn at this; rw [HDL.out] at this; exact this) (show Sees W1 1 (.slice (some ⟨W.heap.size, 0, none⟩) 1 1) 1 [.string y] by rw [hW1]; exact sees_one _ _ _ _)))
              clear hal hW1
              go_wp2_with (at_builtin; revert HW1)
              intro HW1
              change wpList _ _ _ _ _ (W.alloc (.cells #[.string y] 9))
              rw [← HW1.out]
              refine wpList_append_onto rfl _ _ _ rfl w.heap.size 9 i0 _ 1 16 Try.underlying22 hi0 hz0 hz1 hz2 rfl (by omega) (.slice (some ⟨ga, oa, none⟩) D cv) D (kcells (R.take (d + k))) rfl H1.out.2.1 (.slice (some ⟨W.heap.size, 0, none⟩) 1 1) 1 [.string y] rfl H1.out.2.2 (fun u hu => by rw [List.mem_singleton.1 hu]; rfl) (by unfold maxLen; omega) (by omega) (by have h1 := HI.out.below.size; have h2 := H1.out.1.size; omega) ?_
              intro v3 w3 ho3 hon3
              have HE := Lib.hid (show AllIn w R T d (k + 1) (some ⟨gl, ol, none⟩) v3 w3 from by
                have htk : R.take (d + (k + 1)) = R.take (d + k) ++ [R[d + k]'(by rw [← HR.out.2.1]; omega)] := by
                  rw [← Nat.add_assoc, List.take_succ_eq_append_getElem (by rw [← HR.out.2.1]; omega)]
                refine ⟨?_, ?_, ?_, fun q hq => ?_⟩
                · unfold KOwn
                  rw [htk, List.length_append, kcells_app, HDL.out, show kcells [R[d + k]'(by rw [← HR.out.2.1]; omega)] = [.string y] by rw [HY.out]; rfl]
                  exact ho3
                · exact HI.out.below.trans ((H1.out.1.mono HI.out.below.size).trans (hon3.below H1.out.2.1 (by have h1 := HI.out.below.size; have h2 := H1.out.1.size; omega)))
                · exact (HI.out.ks.below H1.out.1).but hon3.but (fun q hq e => (HI.out.off q hq).2 e.symm)
                · have h1 := HI.out.off q hq
                  have h2 := H1.out.1.size
                  have h3 := hon3.grown.size
                  refine ⟨by omega, fun e => ?_⟩
                  rcases hon3.own with h4 | h4
                  · exact h1.2 (by rw [← h4]; exact e)
                  · have := h4 _ e; omega)
              clear ho3 hon3
              go_wp2_with fail
              go_roundw
              case rel => exact ⟨k + 1, by simp, by omega, HE.out⟩
              case measure => simp [intOf]; omega
          · have hkn : k = nT := by omega
            subst hkn
            have hm1 : 1 ≤ k := by have h1 := HM.out.1; have h2 := HMO.out.1 (by trivial); omega
            have hkm : d + k < nR := by have h2 := HMO.out.1 (by trivial); omega
            obtain ⟨gl, ol, rfl, hgl, hcl⟩ := HI.out.ks (by rw [← HT.out.1]; omega)
            have c0 := hcl (k - 1) (by rw [← HT.out.1]; omega)
            rw [HT.out.2.2.1 (k - 1) (by rw [← HT.out.1]; omega) (by rw [← HR.out.2.1]; omega)] at c0
            obtain ⟨y, hy⟩ : ∃ y, y = tx (R[d + (k - 1)]'(by rw [← HR.out.2.1]; omega)) := ⟨_, rfl⟩
            rw [← hy] at c0
            have hya : y = tx (aft R (d + k)) := by
              rw [hy, aft_some (by omega) (by rw [← HR.out.2.1]; omega)]
              congr 2
              omega
            have HY := Lib.hid (And.intro hya (show i = 0 ∧ d = 0 ∨ 0 < i ∧ i ≤ d ∧ d < nR from HID.out))
            have hw1 : IntKind.i64.wrap ((k : Int) - 1) = ((k - 1 : Nat) : Int) := by rw [IntKind.wrap_i64]; omega
            have hk1 : k ≤ 1000 := by have := HM.out.2; omega
            have hi200 : i ≤ 200 := by have := HSM.out.2; omega
            clear hcl hy hya
            go_wp2_with fail
            go_roundw
            case rel => exact ⟨i + 1, d + k, by simp, .inr (by have := HY.out.2; omega), by rw [HY.out.1], HI.out.own, HI.out.below⟩
            case measure => simp [intOf]; omega
  · rw [decide_eq_false hsm] at cS
    clear hsm
    go_wp2_with fail
    refine cS.mono ?_
    rintro e w' ⟨rfl, hw'⟩
    rw [hw']
    clear hw' cS
    go_wp2_with fail
    go_ret
    exact ⟨rfl, HB1.out⟩
end
end Go.Proofs.Ytbhoknnjilidnaa.Fold
