/- Contracts of the program's rising, Page and Find. -/
import Derived.Test.YtbhoknnjilidnaaFoldRefPage
import Derived.Test.YtbhoknnjilidnaaFoldLib
namespace Go.Proofs.Ytbhoknnjilidnaa.Fold
open Go.Proofs.Ytbhoknnjilidnaa.Mem
open Go.ChangeShapes Go.WideShapes Go.ChangeAt Go.RowKit
open Go.Proofs (encStr)
open Go.Sort (Holds putRow)
set_option linter.unusedVariables false
set_option linter.unusedSimpArgs false
section
variable {w : World} {a : Option Addr} {ks : List K} {c B : Nat} {v : Value}
theorem below_grow (w : World) (os : Array Obj) : Below w.heap.size w (Sort.grow w os) :=
  ⟨rfl, rfl, rfl, by simp [Sort.grow], fun k hk => by simp [Sort.grow, Array.getElem?_append_left hk]⟩
/- A row that was sorted, and one that was compacted. -/
theorem KOwn.put {g cap q : Nat} {zs ys : List K} (h : KOwn w B (.slice (some ⟨g, 0, none⟩) zs.length cap) zs) (hy : ys.length = zs.length) {k : Nat} (hk : k ≤ zs.length) :
    KOwn (putRow encStr (Sort.ahead w q) g 0 ys.toArray) B (.slice (some ⟨g, 0, none⟩) k cap) (ys.take k) := by
  have h1 := Lib.ownsRow_putRow (q := q) (k := k) (ys := ys) h hy hk
  unfold KOwn
  rw [List.length_take, Nat.min_eq_left (by omega)]
  exact h1
structure RiseAt (w : World) (ks : List K) (after : K) (first : Bool) (i : Nat) (v : Value) (wr : World) : Prop where
  own : KOwn wr w.heap.size v ((ks.take i).filter (behind after first))
  below : Below w.heap.size w wr
theorem take_few (p : K → Bool) (ks : List K) (i : Nat) : ((ks.take i).filter p).length ≤ i := by
  have h2 := List.length_filter_le p (ks.take i)
  rw [List.length_take] at h2
  omega
set_option maxRecDepth 100000 in
set_option maxHeartbeats 2000000 in
theorem rising_any (hk : Ks w a ks) (hl : ks.length ≤ 1000) (after : K) (first : Bool) :
    Calls Try.prog 11 #[.slice a ks.length c, .string (tx after), .bool first] w fun e w' => ∃ v, e = .returned v ∧ KOwn w' w.heap.size v (rest ks after first) ∧ Below w.heap.size w w' := by
  obtain ⟨i0, hi0, hz⟩ := Option.map_eq_some_iff.1 str_info
  simp only [Prod.mk.injEq] at hz
  obtain ⟨hz0, hz1, hz2⟩ := hz
  obtain ⟨n, hn⟩ : ∃ n, n = ks.length := ⟨_, rfl⟩
  have HK := Lib.hid hk
  rw [← hn] at hl ⊢
  have HN := Lib.hid hn
  obtain ⟨z, hz⟩ : ∃ z, z = tx after := ⟨_, rfl⟩
  rw [← hz]
  have HZ := Lib.hid hz
  have HS := Lib.hid (show RiseAt w ks after first 0 (.slice none 0 0) w from ⟨KOwn.nil w _, Below.refl _ w⟩)
  clear hk hn hz
  go_enter Try.func11, Try.ntmps11
  go_wp2_with fail
  go_loopw [7, 12] (fun v u wr => ∃ i : Nat, u = .int .i64 (i : Int) ∧ i ≤ n ∧ RiseAt w ks after first i v wr) (fun _ u _ => n - (intOf u).toNat)
  case atStart => exact ⟨0, rfl, by omega, HS.out⟩
  case round =>
    clear HS
    obtain ⟨i, rfl, hi, hR⟩ := hrel
    have HR := Lib.hid hR
    clear hR
    by_cases hlt : i < n
    · have hi2 : i < ks.length := by rw [← HN.out]; exact hlt
      obtain ⟨b, off, rfl, hb, hc⟩ := HK.out (by omega)
      obtain ⟨y, hy⟩ : ∃ y, y = tx ks[i] := ⟨_, rfl⟩
      have c0 : wr.cell? ⟨b, off + i, none⟩ = some (.string y) := by rw [hy]; exact (HR.out.below.cell (p := ⟨b, off + i, none⟩) hb).trans (hc i hi2)
      have HY := Lib.hid hy
      clear hc hy
      have hstep := filter_step (p := behind after first) hi2
      obtain ⟨M, hM⟩ : ∃ M, M = (ks.take i).filter (behind after first) := ⟨_, rfl⟩
      obtain ⟨m, hm⟩ : ∃ m, m = M.length := ⟨_, rfl⟩
      have hmi : m ≤ i := by rw [hm, hM]; exact take_few _ _ _
      have hO := HR.out.own
      rw [← hM] at hO hstep
      obtain ⟨av, cv, rfl, _⟩ := hO.slice
      rw [← hm] at hO HR ⊢
      by_cases hbe : behind after first ks[i] = true
      · rw [if_pos hbe] at hstep
        have HST := Lib.hid hstep
        have hal := (Below.refl wr.heap.size wr).alloc (Nat.le_refl _) (.cells #[.string y] 9)
        obtain ⟨W1, hW1⟩ : ∃ V, V = wr.alloc (.cells #[.string y] 9) := ⟨_, rfl⟩
        rw [← hW1] at hal
        have HW1 := Lib.hid hW1
        have hO1 : W1.ownsRow w.heap.size 9 1 (.slice av m cv) m (kcells M) := by have := hO.new hal; unfold KOwn at this; rw [← hm] at this; exact this
        have H1 := Lib.hid (And.intro (HR.out.below.trans (hal.mono HR.out.below.size)) (And.intro hO1 (show Sees W1 1 (.slice (some ⟨wr.heap.size, 0, none⟩) 1 1) 1 [.string y] by rw [hW1]; exact sees_one _ _ _ _)))
        have HM := Lib.hid hm
        clear hstep hal hO hO1 hW1 hM hm
        cases first
        · have hbe2 : after < ks[i] := by simpa [behind] using hbe
          have t1 : (!(Op.bytesLess y.toList z.toList || y.toList == z.toList)) = true := by rw [HY.out, HZ.out, more_tx]; exact decide_eq_true hbe2
          go_wp2_with (at_builtin; revert HW1)
          intro HW1
          change wpList _ _ _ _ _ (wr.alloc (.cells #[.string y] 9))
          rw [← HW1.out]
          refine wpList_append_sees rfl _ _ _ rfl w.heap.size 9 i0 _ 1 16 Try.underlying22 hi0 hz0 hz1 hz2 rfl (by omega) (.slice av m cv) m (kcells M) rfl H1.out.2.1 (.slice (some ⟨wr.heap.size, 0, none⟩) 1 1) 1 [.string y] rfl H1.out.2.2 (fun u hu => by rw [List.mem_singleton.1 hu]; rfl) (by unfold maxLen; omega) (by omega) H1.out.1.size ?_
          intro v2 w2 ho2 hb2
          have ho2' : KOwn w2 w.heap.size v2 (M ++ [ks[i]]) := by
            unfold KOwn
            rw [List.length_append, kcells_app, show kcells [ks[i]] = [.string y] by rw [HY.out]; rfl, ← HM.out]
            exact ho2
          have HE := Lib.hid (show RiseAt w ks after false (i + 1) v2 w2 from ⟨by rw [HST.out]; exact ho2', H1.out.1.trans hb2⟩)
          clear ho2 ho2' hb2
          go_wp2_with fail
          go_roundw
          case rel => exact ⟨i + 1, by simp, by omega, HE.out⟩
          case measure => simp [intOf]; omega
        · skip
          go_wp2_with (at_builtin; revert HW1)
          intro HW1
          change wpList _ _ _ _ _ (wr.alloc (.cells #[.string y] 9))
          rw [← HW1.out]
          refine wpList_append_sees rfl _ _ _ rfl w.heap.size 9 i0 _ 1 16 Try.underlying22 hi0 hz0 hz1 hz2 rfl (by omega) (.slice av m cv) m (kcells M) rfl H1.out.2.1 (.slice (some ⟨wr.heap.size, 0, none⟩) 1 1) 1 [.string y] rfl H1.out.2.2 (fun u hu => by rw [List.mem_singleton.1 hu]; rfl) (by unfold maxLen; omega) (by omega) H1.out.1.size ?_
          intro v2 w2 ho2 hb2
          have ho2' : KOwn w2 w.heap.size v2 (M ++ [ks[i]]) := by
            unfold KOwn
            rw [List.length_append, kcells_app, show kcells [ks[i]] = [.string y] by rw [HY.out]; rfl, ← HM.out]
            exact ho2
          have HE := Lib.hid (show RiseAt w ks after true (i + 1) v2 w2 from ⟨by rw [HST.out]; exact ho2', H1.out.1.trans hb2⟩)
          clear ho2 ho2' hb2
          go_wp2_with fail
          go_roundw
          case rel => exact ⟨i + 1, by simp, by omega, HE.out⟩
          case measure => simp [intOf]; omega
      · rw [if_neg hbe, List.append_nil] at hstep
        have HST := Lib.hid hstep
        have HM := Lib.hid hM
        clear hstep hO hm
        cases first
        · have hbe2 : ¬ after < ks[i] := by simpa [behind] using hbe
          have t1 : (!(Op.bytesLess y.toList z.toList || y.toList == z.toList)) = false := by rw [HY.out, HZ.out, more_tx]; exact decide_eq_false hbe2
          clear hM
          go_wp2_with fail
          go_roundw
          case rel => exact ⟨i + 1, by simp, by omega, ⟨by rw [HST.out, HM.out]; exact HR.out.own, HR.out.below⟩⟩
          case measure => simp [intOf]; omega
        · exact absurd rfl hbe
    · have hin : i = n := by omega
      subst hin
      have htk : ks.take i = ks := by rw [HN.out]; exact List.take_length
      have hO := HR.out.own
      rw [htk] at hO
      obtain ⟨M, hM⟩ : ∃ M, M = ks.filter (behind after first) := ⟨_, rfl⟩
      have hrest : rest ks after first = sorted M := by rw [hM]; rfl
      rw [← hM] at hO
      have hml : M.length ≤ i := by rw [hM, HN.out]; exact List.length_filter_le _ _
      have HRE := Lib.hid hrest
      have HBW := Lib.hid HR.out.below
      clear htk hM hrest HR
      rcases Nat.eq_zero_or_pos M.length with h0 | h0
      · have hM0 : M = [] := List.eq_nil_of_length_eq_zero h0
        subst hM0
        obtain ⟨av, cv, rfl, _⟩ := hO.slice
        have HO := Lib.hid hO
        clear hO h0
        simp only [List.length_nil]
        go_wp2_with fail
        refine (Try.slices_Sort_string_none _ _ _).mono ?_
        rintro e w' ⟨rfl, hw'⟩
        rw [hw']
        clear hw'
        go_wp2_with fail
        refine (Try.slices_Compact_string_empty _ _ _).mono ?_
        rintro e w' ⟨rfl, hw'⟩
        rw [hw']
        clear hw'
        go_wp2_with fail
        go_ret
        refine ⟨_, rfl, ?_, HBW.out⟩
        have e : sorted ([] : List K) = [] := List.eq_nil_of_length_eq_zero (by have := sorted_length ([] : List K); simpa using this)
        rw [HRE.out, e]
        exact HO.out
      · obtain ⟨g, cap, rfl, hgb, hglt, hnc, hcm, _, hH⟩ := Lib.holds_of_ownsRow (zs := M) hO (fun e => by subst e; obtain ⟨a', c', e', _⟩ := hO.slice; injection e' with _ e2 _; omega)
        have HO := Lib.hid hO
        have cS := Try.slices_Sort_string g 0 cap M wr hH hglt (by omega)
        have HG := Lib.hid (And.intro hgb (And.intro hnc h0))
        clear hO hH
        go_wp2_with fail
        refine cS.mono ?_
        rintro e w2 ⟨rfl, q, os, hw2⟩
        clear cS
        obtain ⟨Y, hY⟩ : ∃ Y, Y = M.mergeSort fun x y => decide (x ≤ y) := ⟨_, rfl⟩
        rw [← hY] at hw2
        have hYl : Y.length = M.length := by rw [hY, List.length_mergeSort]
        obtain ⟨V, hV⟩ : ∃ V, V = putRow encStr (Sort.ahead wr q) g 0 Y.toArray := ⟨_, rfl⟩
        have hb2 : Below w.heap.size w w2 := by
          have h1 : Below w.heap.size w V := by rw [hV]; exact Lib.below_putRow HBW.out HG.out.1
          rw [hw2, ← hV]
          exact h1.trans ((below_grow V os).mono h1.size)
        have ho2 : KOwn w2 w.heap.size (.slice (some ⟨g, 0, none⟩) M.length cap) Y := by
          have h1 := HO.out.put (q := q) hYl (Nat.le_refl _)
          rw [← hV, List.take_of_length_le (by omega)] at h1
          rw [hw2, ← hV]
          exact h1.new (below_grow V os)
        rw [← hYl] at ho2
        obtain ⟨g2, cap2, hv2, _, hglt2, hnc2, _, _, hH2⟩ := Lib.holds_of_ownsRow (zs := Y) ho2 (fun e => by cases e)
        injection hv2 with e1 _ e3
        injection e1 with e1
        injection e1 with e1
        subst e1; subst e3
        have cC := Try.slices_Compact_string g 0 cap Y w2 hH2 (by omega) (by omega)
        rw [hYl] at cC
        have H2 := Lib.hid (And.intro hb2 (And.intro ho2 (And.intro hY hYl)))
        clear hw2 hV hb2 ho2 hH2 hY
        go_wp2_with fail
        refine cC.mono ?_
        rintro e w3 ⟨rfl, q2, hw3⟩
        clear cC
        have hsrt : Lib.compact Y = sorted M := by rw [H2.out.2.2.1]; rfl
        have hcl : (Lib.compact Y).length ≤ Y.length := Lib.compact_length_le Y
        have hb3 : Below w.heap.size w w3 := by rw [hw3]; exact Lib.below_putRow H2.out.1 HG.out.1
        have ho3 : KOwn w3 w.heap.size (.slice (some ⟨g, 0, none⟩) (Lib.compact Y).length cap) (Lib.compact Y) := by
          have h1 := H2.out.2.1.put (q := q2) (ys := Lib.compact Y ++ List.replicate (M.length - (Lib.compact Y).length) []) (by rw [List.length_append, List.length_replicate]; have := H2.out.2.2.2; omega) hcl
          rw [List.take_left] at h1
          rw [hw3]
          exact h1
        have HE := Lib.hid (And.intro hb3 (And.intro ho3 hsrt))
        clear hw3 hsrt hcl hb3 ho3
        go_wp2_with fail
        go_ret
        refine ⟨_, rfl, ?_, HE.out.1⟩
        rw [HRE.out, ← HE.out.2.2]
        exact HE.out.2.1
end
end Go.Proofs.Ytbhoknnjilidnaa.Fold
