/- Contracts of the program's add, Reserve, Admits and Check, and of the law's up. -/
import Derived.Test.YtceooidgghmfbaaQuoMem
import Derived.Test.YtceooidgghmfbaaErr
namespace Go.Proofs.Ytceooidgghmfbaa.Quo
open Go.Proofs.Ytceooidgghmfbaa.Mem
open Go.ChangeShapes Go.WideShapes Go.ChangeAt Go.RowKit
open Go.Proofs.Ytceooidgghmfbaa.Err (errV errV_zero errV_some code_eql)
set_option linter.unusedVariables false
set_option linter.unusedSimpArgs false
set_option maxRecDepth 100000 in
set_option maxHeartbeats 1000000 in
theorem add_any {s : Int} (hs : In s) (n : Int) (w : World) :
    Calls Try.prog 8 #[.int .i64 s, .int .i64 n] w fun e w' => e = .returned (.int .i64 (more1 s n)) ∧ w' = w := by
  obtain ⟨h1, h2⟩ := hs
  unfold top at h2
  obtain ⟨r, hr⟩ : ∃ r, r = more1 s n := ⟨_, rfl⟩
  rw [← hr]
  unfold more1 top at hr
  by_cases h3 : n < 0
  · have hr2 : r = 4611686018427382904 := by rw [hr, if_pos (.inl h3)]; rfl
    clear hr
    go_enter Try.func8, Try.ntmps8
    go_wp2_with fail
    go_ret
    exact ⟨by first | rfl | (rw [hr2]; rfl), rfl⟩
  · by_cases h4 : 4611686018427382903 - s < n
    · have hr2 : r = 4611686018427382904 := by rw [hr, if_pos (.inr h4)]; rfl
      clear hr
      go_enter Try.func8, Try.ntmps8
      go_wp2_with fail
      go_ret
      exact ⟨by first | rfl | (rw [hr2]; rfl), rfl⟩
    · have hr2 : r = s + n := by rw [hr, if_neg (by omega)]
      clear hr
      go_enter Try.func8, Try.ntmps8
      go_wp2_with fail
      go_ret
      exact ⟨by first | rfl | (rw [hr2]; rfl), rfl⟩
set_option maxRecDepth 100000 in
set_option maxHeartbeats 1000000 in
theorem reserve_any {w : World} {a : Option Addr} {l : List Int} {c : Nat} (h : Ns w a l) (hl : l.length ≤ 9223372036854775807) (admin : Int) :
    Calls Try.prog 5 #[.slice a l.length c, .int .i64 admin] w fun e w' => e = .returned (.int .i64 (res l admin)) ∧ w' = w := by
  obtain ⟨n, hn⟩ : ∃ n, n = l.length := ⟨_, rfl⟩
  rw [← hn] at hl ⊢
  obtain ⟨r, hr⟩ : ∃ r, r = res l admin := ⟨_, rfl⟩
  rw [← hr]
  obtain ⟨s0, hs0⟩ : ∃ s, s = more1 0 admin := ⟨_, rfl⟩
  have hi0 : In s0 := by rw [hs0]; exact in_more in_zero
  have c0 := add_any in_zero admin w
  rw [← hs0] at c0
  have hr2 : r = if top < sums s0 l then 9223372036854775807 else 2 * sums s0 l + 10000 := by rw [hr, hs0]; rfl
  have HR := Lib.hid hr2
  have HN := Lib.hid hn
  have HK := Lib.hid h
  have HI := Lib.hid hi0
  clear h hn hr hr2 hs0 hi0
  go_enter Try.func5, Try.ntmps5
  go_wp2_with fail
  refine c0.mono ?_
  rintro e w' ⟨rfl, hw'⟩
  rw [hw']
  clear hw' c0
  go_wp2_with fail
  go_loopw [5, 12] (fun u x wr => ∃ i : Nat, x = .int .i64 (i : Int) ∧ i ≤ n ∧ u = .int .i64 (sums s0 (l.take i)) ∧ wr = w) (fun _ x _ => n - (intOf x).toNat)
  case atStart => exact ⟨0, rfl, by omega, rfl, rfl⟩
  case round =>
    obtain ⟨i, rfl, hi, rfl, rfl⟩ := hrel
    obtain ⟨s, hs⟩ : ∃ s, s = sums s0 (l.take i) := ⟨_, rfl⟩
    have hin : In s := by rw [hs]; exact in_sums HI.out _
    rw [← hs]
    by_cases hlt : i < n
    · have hi2 : i < l.length := by rw [← HN.out]; exact hlt
      obtain ⟨b, off, rfl, hb, hc⟩ := HK.out (by omega)
      have c0 := hc i hi2
      have hst := sums_snoc s0 l hi2
      rw [← hs] at hst
      obtain ⟨y, hy⟩ : ∃ y, y = l[i] := ⟨_, rfl⟩
      rw [← hy] at c0 hst
      have cA := add_any hin y wr
      have HC := Lib.hid c0
      have HS := Lib.hid hst
      rw [← hst] at cA
      clear hc hs hy hin hst
      go_wp2_with fail
      refine cA.mono ?_
      rintro e w' ⟨rfl, hw'⟩
      rw [hw']
      clear hw' cA
      go_wp2_with fail
      go_roundw
      case rel => exact ⟨i + 1, by simp, by omega, rfl, by trivial⟩
      case measure => simp [intOf]; omega
    · have hin2 : i = n := by omega
      have hr3 := HR.out
      rw [← List.take_of_length_le (l := l) (i := i) (by rw [← HN.out]; omega), ← hs] at hr3
      unfold top at hr3
      obtain ⟨h1, h2⟩ := hin
      unfold top at h2
      subst hin2
      clear hs
      by_cases ht : 4611686018427382903 < s
      · have hr4 : r = 9223372036854775807 := by rw [hr3, if_pos ht]
        clear hr3
        go_wp2_with fail
        go_ret
        exact ⟨by first | rfl | (rw [hr4]; rfl), rfl⟩
      · have hr4 : r = 2 * s + 10000 := by rw [hr3, if_neg ht]
        clear hr3
        go_wp2_with fail
        go_ret
        exact ⟨by first | rfl | (rw [hr4]; rfl), rfl⟩
set_option maxRecDepth 100000 in
set_option maxHeartbeats 1000000 in
theorem admits_any {w : World} {a : Option Addr} {l : List Int} {c : Nat} (h : Ns w a l) (hl : l.length ≤ 9223372036854775807) (capacity admin : Int) :
    Calls Try.prog 6 #[.int .i64 capacity, .slice a l.length c, .int .i64 admin] w fun e w' => e = .returned (.bool (decide (res l admin ≤ capacity))) ∧ w' = w := by
  have cR := reserve_any (c := c) h hl admin
  obtain ⟨n, hn⟩ : ∃ n, n = l.length := ⟨_, rfl⟩
  rw [← hn] at cR ⊢
  obtain ⟨r, hr⟩ : ∃ r, r = res l admin := ⟨_, rfl⟩
  rw [← hr] at cR ⊢
  clear h hl hn hr
  go_enter Try.func6, Try.ntmps6
  go_wp2_with fail
  refine cR.mono ?_
  rintro e w' ⟨rfl, hw'⟩
  rw [hw']
  clear hw' cR
  go_wp2_with fail
  go_ret
  exact ⟨rfl, rfl⟩
/- Check of the quota of naught, and one key: its first error. -/
set_option maxRecDepth 100000 in
set_option maxHeartbeats 1000000 in
theorem check_zero (w : World) : Calls Try.prog 7 #[.agg #[.int .i64 0, .int .i64 0, .int .i64 0], .int .i64 1, .int .i64 0, .int .i64 0, .int .i64 0] w fun e w' => e = .returned (.iface 32 (.int .i64 8)) ∧ Below w.heap.size w w' := by
  go_enter Try.func7, Try.ntmps7
  go_wp2_with fail
  go_ret
  exact ⟨rfl, (Below.refl _ w).alloc (Nat.le_refl _) _⟩
theorem ex_res : res [100, 50] 10 = 10320 := by decide
/- The two budgets of the example, in a block of their own. -/
def exW (w : World) : World := w.alloc (.cells #[.int .i64 100, .int .i64 50] 2)
theorem ex_below (w : World) : Below w.heap.size w (exW w) := (Below.refl w.heap.size w).alloc (Nat.le_refl _) _
theorem ex_reserve (w : World) : Calls Try.prog 5 #[.slice (some ⟨w.heap.size, 0, none⟩) 2 2, .int .i64 10] (w.alloc (.cells #[.int .i64 100, .int .i64 50] 2)) fun e w' => e = .returned (.int .i64 10320) ∧ Below w.heap.size w w' := by
  have c1 := reserve_any (c := 2) (ns_made w [100, 50] (0, 0)) (by decide) 10
  rw [ex_res] at c1
  refine c1.mono ?_
  rintro e w' ⟨rfl, rfl⟩
  exact ⟨rfl, ex_below w⟩
theorem ex_admits (w : World) (n : Int) : Calls Try.prog 6 #[.int .i64 n, .slice (some ⟨w.heap.size, 0, none⟩) 2 2, .int .i64 10] (w.alloc (.cells #[.int .i64 100, .int .i64 50] 2)) fun e w' => e = .returned (.bool (decide ((10320 : Int) ≤ n))) ∧ Below w.heap.size w w' := by
  have c1 := admits_any (c := 2) (ns_made w [100, 50] (0, 0)) (by decide) n 10
  rw [ex_res] at c1
  refine c1.mono ?_
  rintro e w' ⟨rfl, rfl⟩
  exact ⟨rfl, ex_below w⟩
set_option maxRecDepth 100000 in
set_option maxHeartbeats 1000000 in
theorem up_any (w : World) : Calls Try.prog 4 #[] w fun e w' => e = .returned (.bool true) ∧ Below w.heap.size w w' := by
  have ke := code_eql
  go_enter Try.func4, Try.ntmps4
  go_wp2_with fail
  refine (ex_reserve w).mono ?_
  rintro e w2 ⟨rfl, hb1⟩
  have HB1 := Lib.hid hb1
  clear hb1
  go_wp2_with fail
  refine (ex_admits w2 10320).mono ?_
  rintro e w4 ⟨rfl, hb⟩
  have HB2 := Lib.hid (HB1.out.trans (hb.mono HB1.out.size))
  clear hb HB1
  go_wp2_with fail
  refine (ex_admits w4 10319).mono ?_
  rintro e w6 ⟨rfl, hb⟩
  have HB3 := Lib.hid (HB2.out.trans (hb.mono HB2.out.size))
  clear hb HB2
  go_wp2_with fail
  refine (check_zero w6).mono ?_
  rintro e w7 ⟨rfl, hb⟩
  have HB4 := Lib.hid (HB3.out.trans (hb.mono HB3.out.size))
  clear hb HB3
  go_wp2_with fail
  go_ret
  exact ⟨rfl, HB4.out⟩
end Go.Proofs.Ytceooidgghmfbaa.Quo
