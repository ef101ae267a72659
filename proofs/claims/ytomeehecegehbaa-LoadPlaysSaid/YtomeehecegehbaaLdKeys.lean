/- The keys of a map from int, by an iterator; collected; sorted. -/
import Derived.Test.YtomeehecegehbaaLdMem
import Derived.Shelf.SlIter.Collect
import Derived.Shelf.SlIterI.Collect
import Derived.OwnWalkIn
import Derived.TacticsInMore
import Derived.RegionIn
import Derived.LoopNIn
import Derived.LoopIn
import Derived.Sort.MapsRangeIn
namespace Go.Proofs.Ytomeehecegehbaa.Ld
open Go.Proofs.Ytomeehecegehbaa.Mem
open Go.RowKit Go.Sort
set_option linter.unusedVariables false
set_option linter.unusedSimpArgs false
/- The keys that have come, each once: those that the map has and that aren't left. -/
def Came {H : Type} (D : DataW H) (left : Lit → Bool) (ss : List Int) : Prop := ss.Nodup ∧ ∀ x, x ∈ ss ↔ (Maps.has D (.int .i64 x) = true ∧ left (.int .i64 x) = false)
theorem Came.start {H : Type} (D : DataW H) : Came D (Maps.has D) [] := ⟨List.nodup_nil, fun x => by cases Maps.has D (.int .i64 x) <;> simp⟩
theorem Came.step {H : Type} {D : DataW H} {left : Lit → Bool} {ss : List Int} (h : Came D left ss) {x : Int} {y : DataW H} (hl : left (.int .i64 x) = true) (ha : ∀ z, D.atKey (.int .i64 x) z = y) :
    Came D (fun z => left z && !z.sameKey (.int .i64 x)) (ss ++ [x]) := by
  have h1 : Maps.has D (.int .i64 x) = true := Maps.has_true_of_atKey ha
  have h2 : x ∉ ss := fun hx => by
    have := ((h.2 x).1 hx).2
    rw [hl] at this; cases this
  refine ⟨List.nodup_append.2 ⟨h.1, by simp, ?_⟩, fun y => ?_⟩
  · intro a hin b hb e
    simp at hb
    subst hb e
    exact h2 hin
  · by_cases hy : y = x
    · subst hy
      simp [h1, Lit.sameKey]
    · simp [h.2 y, hy, Lit.sameKey]
/- All keys of the map, each once. -/
structure All {H : Type} (D : DataW H) (ss : List Int) : Prop where
  came : Came D (fun _ => false) ss
  len : ss.length ≤ Maps.size D
theorem law : Maps.Keyed Try.prog 3 := Maps.int_keyed Try.underlying3
theorem keys_call (mb : Nat) (w : World) : Calls Try.prog 15 #[.map (some mb)] w fun e w' =>
    e = .returned (.func (.func 23) #[] #[.pointer (some ⟨w.heap.size, 0, none⟩)]) ∧ w' = w.alloc (.cells #[.map (some mb)] 42) := by
  go_enter Try.func15, Try.ntmps15
  go_wp2
  go_ret
  exact ⟨rfl, rfl⟩
set_option maxRecDepth 100000 in
set_option maxHeartbeats 2000000 in
/- The iterator: whatever the rounds keep, each key comes once. -/
theorem iter_in {H : Type} (n : Nat) (hn : 1 ≤ n) (l Bm b nn : Nat) (D : DataW H) {R : Value → Option (DataW H × List MemPlace)} (J : List Int → World → Prop)
    (hY : ∀ pre x W, J pre W → pre.length < Maps.size D → YieldAt Fence.wide (n - 1) Try.prog l #[enc x] W fun e W' => e = .returned (.bool true) ∧ J (pre ++ [x]) W' ∧ KeepsWalks W W')
    (W : World) (hJ : AbidesFrom W.heap.size J) (hm : W.cell? ⟨Bm, 0, none⟩ = some (.map (some b))) (hown : W.ownsMap Try.prog 3 R b nn D) (h0 : J [] W) :
    CallsIn Fence.wide n Try.prog 23 #[.func (.yield l) #[] #[], .pointer (some ⟨Bm, 0, none⟩)] W fun e W' => (∃ v, e = .returned v) ∧ ∃ ss : List Int, All D ss ∧ J ss W' := by
  refine callsIn_of_wp Try.func23 rfl trivial ?_ rfl
  have hnt := Try.ntmps23
  simp only [hnt, List.size_toArray, List.length_cons, List.length_nil, Nat.reduceAdd, Nat.reduceSub, Array.replicate_succ, Array.replicate_zero, List.push_toArray, List.append_toArray, List.nil_append, List.cons_append]
  clear hnt
  gi_wp2_with (first
    | (gi_at_range; refine wpListIn_range_own _ rfl _ 42 rfl 3 34 law Try.underlying42 _ b nn _ rfl hown ?_; intro w0 hrg0 hg0 hs0)
    | gi_in)
  go_frame
  gi_loopw [3] (fun _ wr => ∃ (left : Lit → Bool) (cnt : Nat) (ss : List Int), wr.ranges Try.prog 3 R b W.heap.size nn D left cnt ∧ ss.length + cnt ≤ Maps.size D ∧ Came D left ss ∧ J ss wr) (fun _ wr => wr.rangeLeft b W.heap.size)
  case atStart => exact ⟨_, _, [], hrg0, by simp, Came.start D, hJ [] W w0 none h0 hg0 (fun r e => by cases e)⟩
  case round =>
    obtain ⟨left, cnt, ss, hrg, hcs, hC, hJs⟩ := hrel
    gi_wp2_with (first
      | (gi_at_next; refine wpListIn_next_ranges _ rfl _ rfl 3 law R enc id (fun key kl hk => by obtain ⟨x, hx, _⟩ := Maps.keyOf_int_inv Try.underlying3 hk; exact ⟨x, hx⟩) (fun v _ _ => ⟨v, rfl⟩) b W.heap.size nn _ _ _ rfl hrg ?_ ?_)
      | gi_in)
    · intro hc0 hl0
      gi_wp2
      go_end0
      refine ⟨⟨_, rfl⟩, ss, ⟨?_, by omega⟩, hJs⟩
      rwa [show left = fun _ => false from funext hl0] at hC
    · intro x c kl yd yp w2 cnt2 hkey hlk hv hat hrg2 hlt hg2 hs2 hen
      obtain ⟨x', ex, rfl, _⟩ := Maps.keyOf_int_inv Try.underlying3 hkey
      obtain rfl : x = x' := by simpa [enc] using ex
      have hJ2 : J ss w2 := hJ ss wr w2 (some W.heap.size) hJs hg2 (fun r e => by cases e; exact ⟨Nat.le_refl _, hrg.iter_walk⟩)
      obtain ⟨fn, tmps, assign, body, hy, hR⟩ := hY ss x w2 hJ2 (by omega)
      clear hs2
      gi_wp2
      refine hR.mono ?_
      rintro e W3 ⟨rfl, hJ3, hk3⟩
      gi_wp2
      have hrg3 := hrg2.of_walks hk3
      go_roundw
      case rel => exact ⟨_, cnt2, ss ++ [x], hrg3, by simp; omega, hC.step hlk hat, hJ3⟩
      case measure => rw [hrg3.left_eq, hrg.left_eq]; exact hlt
end Go.Proofs.Ytomeehecegehbaa.Ld
