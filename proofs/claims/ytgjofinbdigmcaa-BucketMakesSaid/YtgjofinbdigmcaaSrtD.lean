/- In one text: The keys of a map from uint32, by an iterator; collected; sorted. What an iterator gives is collected in a slice of the call's own. slices.Sorted(maps.Keys(m)), the keys of uint32: a new slice of the keys, rising. -/
import Derived.Test.YtgjofinbdigmcaaSortTop
import Derived.Shelf.SlIter.Collect
import Derived.Shelf.SlIterI.Collect
import Derived.OwnWalkIn
import Derived.TacticsInMore
import Derived.RegionIn
import Derived.LoopNIn
import Derived.LoopIn
import Derived.Sort.MapsRangeIn
namespace Go.Proofs.Ytgjofinbdigmcaa.Srt
open Go.Proofs.Ytgjofinbdigmcaa.Mem
open Go.RowKit Go.Sort
set_option linter.unusedVariables false
set_option linter.unusedSimpArgs false
/- The keys that have come, each once: those that the map has and that aren't left. -/
def Came {H : Type} (D : DataW H) (left : Lit → Bool) (ss : List Int) : Prop := ss.Nodup ∧ ∀ x, x ∈ ss ↔ (Maps.has D (.int .u32 x) = true ∧ left (.int .u32 x) = false)
theorem Came.start {H : Type} (D : DataW H) : Came D (Maps.has D) [] := ⟨List.nodup_nil, fun x => by cases Maps.has D (.int .u32 x) <;> simp⟩
theorem Came.step {H : Type} {D : DataW H} {left : Lit → Bool} {ss : List Int} (h : Came D left ss) {x : Int} {y : DataW H} (hl : left (.int .u32 x) = true) (ha : ∀ z, D.atKey (.int .u32 x) z = y) :
    Came D (fun z => left z && !z.sameKey (.int .u32 x)) (ss ++ [x]) := by
  have h1 : Maps.has D (.int .u32 x) = true := Maps.has_true_of_atKey ha
  have h2 : x ∉ ss := fun hx => by
    have := ((h.2 x).1 hx).2
    rw [hl] at this; cases this
  refine ⟨List.nodup_append.2 ⟨h.1, by simp, ?_⟩, fun y => ?_⟩
  · intro a hin b hb e
    simp at hb
    subst hb e
    exact h2 hin
  · by_cases hy : y = x
    · subst hy
      simp [h1, Lit.sameKey]
    · simp [h.2 y, hy, Lit.sameKey]
/- All keys of the map, each once. -/
structure All {H : Type} (D : DataW H) (ss : List Int) : Prop where
  came : Came D (fun _ => false) ss
  len : ss.length ≤ Maps.size D
theorem law : Maps.Keyed Try.prog 29 := Maps.int_keyed Try.underlying29
theorem keys_call (mb : Nat) (w : World) : Calls Try.prog 47 #[.map (some mb)] w fun e w' =>
    e = .returned (.func (.func 60) #[] #[.pointer (some ⟨w.heap.size, 0, none⟩)]) ∧ w' = w.alloc (.cells #[.map (some mb)] 75) := by
  go_enter Try.func47, Try.ntmps47
  go_wp2
  go_ret
  exact ⟨rfl, rfl⟩
set_option maxRecDepth 100000 in
set_option maxHeartbeats 2000000 in
/- The iterator: whatever the rounds keep, each key comes once. -/
theorem iter_in {H : Type} (n : Nat) (hn : 1 ≤ n) (l Bm b nn : Nat) (D : DataW H) {R : Value → Option (DataW H × List MemPlace)} (J : List Int → World → Prop)
    (hY : ∀ pre x W, J pre W → pre.length < Maps.size D → YieldAt Fence.wide (n - 1) Try.prog l #[enc x] W fun e W' => e = .returned (.bool true) ∧ J (pre ++ [x]) W' ∧ KeepsWalks W W')
    (W : World) (hJ : AbidesFrom W.heap.size J) (hm : W.cell? ⟨Bm, 0, none⟩ = some (.map (some b))) (hown : W.ownsMap Try.prog 29 R b nn D) (h0 : J [] W) :
    CallsIn Fence.wide n Try.prog 60 #[.func (.yield l) #[] #[], .pointer (some ⟨Bm, 0, none⟩)] W fun e W' => (∃ v, e = .returned v) ∧ ∃ ss : List Int, All D ss ∧ J ss W' := by
  refine callsIn_of_wp Try.func60 rfl trivial ?_ rfl
  have hnt := Try.ntmps60
  simp only [hnt, List.size_toArray, List.length_cons, List.length_nil, Nat.reduceAdd, Nat.reduceSub, Array.replicate_succ, Array.replicate_zero, List.push_toArray, List.append_toArray, List.nil_append, List.cons_append]
  clear hnt
  gi_wp2_with (first
    | (gi_at_range; refine wpListIn_range_own _ rfl _ 75 rfl 29 87 law Try.underlying75 _ b nn _ rfl hown ?_; intro w0 hrg0 hg0 hs0)
    | gi_in)
  go_frame
  gi_loopw [3] (fun _ wr => ∃ (left : Lit → Bool) (cnt : Nat) (ss : List Int), wr.ranges Try.prog 29 R b W.heap.size nn D left cnt ∧ ss.length + cnt ≤ Maps.size D ∧ Came D left ss ∧ J ss wr) (fun _ wr => wr.rangeLeft b W.heap.size)
  case atStart => exact ⟨_, _, [], hrg0, by simp, Came.start D, hJ [] W w0 none h0 hg0 (fun r e => by cases e)⟩
  case round =>
    obtain ⟨left, cnt, ss, hrg, hcs, hC, hJs⟩ := hrel
    gi_wp2_with (first
      | (gi_at_next; refine wpListIn_next_ranges _ rfl _ rfl 29 law R enc id (fun key kl hk => by obtain ⟨x, hx, _⟩ := Maps.keyOf_int_inv Try.underlying29 hk; exact ⟨x, hx⟩) (fun v _ _ => ⟨v, rfl⟩) b W.heap.size nn _ _ _ rfl hrg ?_ ?_)
      | gi_in)
    · intro hc0 hl0
      gi_wp2
      go_end0
      refine ⟨⟨_, rfl⟩, ss, ⟨?_, by omega⟩, hJs⟩
      rwa [show left = fun _ => false from funext hl0] at hC
    · intro x c kl yd yp w2 cnt2 hkey hlk hv hat hrg2 hlt hg2 hs2 hen
      obtain ⟨x', ex, rfl, _⟩ := Maps.keyOf_int_inv Try.underlying29 hkey
      obtain rfl : x = x' := by simpa [enc] using ex
      have hJ2 : J ss w2 := hJ ss wr w2 (some W.heap.size) hJs hg2 (fun r e => by cases e; exact ⟨Nat.le_refl _, hrg.iter_walk⟩)
      obtain ⟨fn, tmps, assign, body, hy, hR⟩ := hY ss x w2 hJ2 (by omega)
      clear hs2
      gi_wp2
      refine hR.mono ?_
      rintro e W3 ⟨rfl, hJ3, hk3⟩
      gi_wp2
      have hrg3 := hrg2.of_walks hk3
      go_roundw
      case rel => exact ⟨_, cnt2, ss ++ [x], hrg3, by simp; omega, hC.step hlk hat, hJ3⟩
      case measure => rw [hrg3.left_eq, hrg.left_eq]; exact hlt
end Go.Proofs.Ytgjofinbdigmcaa.Srt
namespace Go.Proofs.Ytgjofinbdigmcaa.Srt
open Go.Proofs.Ytgjofinbdigmcaa.Mem
open Go.RowKit Go.Sort Go.Shelf
set_option linter.unusedVariables false
set_option linter.unusedSimpArgs false
def ren : Ren := ⟨fun n => n, fun n => match n with | 24 => 98 | 26 => 29 | 0 => 0 | n => n, fun n => n⟩
/- The loop's record, with the collecting call's slots as they stood. -/
def rec_ (fn : FuncId) (sv : Value) (B D : Nat) (st : LoopState) (pend : Option Code) : Loop := AnyZI.apRec ren fn sv B D st pend
/- Between two rounds: the box (block B) holds a slice of the call's own, with what has come. -/
structure Box (w0 : World) (fn : FuncId) (sv : Value) (B l D : Nat) (ss : List Int) (W : World) : Prop where
  box : ∃ v, W.heap[B]? = some (.cells #[v] 98 (0, 0)) ∧ W.ownsRow w0.heap.size 29 1 v ss.length (ss.map enc)
  loop : W.heap[l]? = some (.loop (rec_ fn sv B D .ready none))
  defers : W.heap[D]? = some (.deferred (some []))
  below : Below w0.heap.size w0 W
theorem Box.abides (w0 : World) (fn : FuncId) (sv : Value) (B l D C : Nat) (hC : w0.heap.size ≤ C) : AbidesFrom C (Box w0 fn sv B l D) := fun s W W' row h hg hrow => by
  have hr : ∀ r, row = some r → ∃ o : Obj, W.heap[r]? = some o ∧ o.isWalk = true := fun r e => (hrow r e).2
  obtain ⟨v, hv, ho⟩ := h.box
  exact ⟨⟨v, (grownBy_keeps hg hr hv rfl).trans hv, ownsRow_abides_a ho hg hr⟩, (grownBy_keeps hg hr h.loop rfl).trans h.loop, (grownBy_keeps hg hr h.defers rfl).trans h.defers, h.below.grown hg h.below.size (fun k e => Nat.le_trans hC (hrow k e).1)⟩
theorem ne_types : 98 ≠ 29 := by decide
/- What is no row of numbers isn't the slice's row. -/
theorem off_row {W : World} {base : Nat} {v : Value} {k : Nat} {xs : List Value} (h : W.ownsRow base 29 1 v k xs) {j : Nat} {o : Obj} (hj : W.heap[j]? = some o) (hno : ∀ cur, o ≠ .cells cur 29 (0, 0)) : some j ≠ v.ownBlock := by
  rcases ownsRow_ne_a h hj hno with e | e
  · rw [e]; simp
  · exact fun e' => e e'.symm
theorem box_no (v : Value) : ∀ cur, Obj.cells #[v] 98 (0, 0) ≠ .cells cur 29 (0, 0) := fun cur e => ne_types (Obj.cells.inj e).2.1
set_option maxRecDepth 100000 in
set_option maxHeartbeats 2000000 in
theorem round_in (m : Nat) (w0 : World) (fn : FuncId) (sv : Value) (B l D : Nat) (hBl : B ≠ l) (hDl : D ≠ l) (hDB : D ≠ B) (h0B : w0.heap.size ≤ B) (h0l : w0.heap.size ≤ l)
    (N : Nat) (hN : N ≤ 1000000) (ss : List Int) (x : Int) (W : World) (h : Box w0 fn sv B l D ss W) (hlen : ss.length < N) :
    YieldAt Fence.wide m Try.prog l #[enc x] W fun e W' => e = .returned (.bool true) ∧ Box w0 fn sv B l D (ss ++ [x]) W' ∧ KeepsWalks W W' := by
  obtain ⟨v, hv, hrow⟩ := h.box
  refine ⟨fn, #[.slice none 0 0, sv, .pointer (some ⟨B, 0, none⟩), undef, .slice none 0 0, undef, sv, enc x, undef, undef, undef, undef, undef], AnyZI.apAssign ren, AnyZI.apBody ren, by simpa [rec_, AnyZI.apRec] using run_yield (P := Try.prog) (args := #[enc x]) h.loop rfl, roundIn_of_wpIn trivial ?_⟩
  have hl : l < W.heap.size := (Array.getElem?_eq_some_iff.1 h.loop).1
  have hbr := run_beginRound (P := Try.prog) h.loop rfl
  obtain ⟨i0, hi, hz0, hz1, hz2⟩ := info_parts (show (Try.prog.info? 29).map (fun i => (i.zero, i.size, i.bytes)) = some (some (.int .u32 0), 1, 4) from by kernel_rfl)
  have hmx : maxLen = 9223372036854775807 := rfl
  obtain ⟨W2, hW2⟩ : ∃ W2, W.putObj l (.loop { rec_ fn sv B D .ready none with state := .busy }) = W2 := ⟨_, rfl⟩
  rw [hW2] at hbr
  have hg2 : W.grownBy W2 (some l) := by rw [← hW2]; exact grownBy_putObj_a _ _ _
  have hk2 : KeepsWalks W W2 := by rw [← hW2]; exact KeepsWalks.putObj _ h.loop rfl
  have hv2 : W2.heap[B]? = some (.cells #[v] 98 (0, 0)) := by rw [← hW2]; exact (World.putObj_heap_other hBl).trans hv
  have hK2 : W2.heap[D]? = some (.deferred (some [])) := by rw [← hW2]; exact (World.putObj_heap_other hDl).trans h.defers
  have hL2 : W2.heap[l]? = some (.loop { rec_ fn sv B D .ready none with state := .busy }) := by rw [← hW2]; exact World.putObj_heap_same hl
  have hrow2 : W2.ownsRow w0.heap.size 29 1 v ss.length (ss.map enc) := hrow.kept hg2 (ownsRow_ne_a hrow h.loop (fun cur e => by cases e))
  have hb2 : Below w0.heap.size w0 W2 := h.below.grown hg2 h.below.size (fun k e => by cases e; exact h0l)
  obtain ⟨hc2, hf2⟩ := cell_of_box_a hv2
  have hlt2 : B < W2.heap.size ∧ l < W2.heap.size ∧ D < W2.heap.size := ⟨(Array.getElem?_eq_some_iff.1 hv2).1, (Array.getElem?_eq_some_iff.1 hL2).1, (Array.getElem?_eq_some_iff.1 hK2).1⟩
  clear hW2
  have r24 : ren.t 24 = 98 := rfl
  have r26 : ren.t 26 = 29 := rfl
  have r0 : ren.t 0 = 0 := rfl
  unfold AnyZI.apAssign
  simp only [r26]
  gi_wp2_with gi_round_op_a
  unfold AnyZI.apBody
  simp only [r24, r26, r0]
  gi_wp2_with (first
    | (gi_at_builtin; refine wpListIn_append_own _ rfl _ _ 98 rfl w0.heap.size 29 i0 (.int .u32 0) 1 4 Try.underlying98 hi hz0 hz1 hz2 rfl (by decide) _ _ _ rfl (hrow2.alloc _) ⟨W2.heap.size, 0, none⟩ 1 1 [enc x] rfl rfl (cell_one_new _ _ _) (by simp [Value.oneCell', enc]) (by omega) (by omega) (by have := hb2.size; simp; omega) ?_; intro v' w3 hown' hg3 hnil3
       have hv3 : w3.heap[B]? = some (.cells #[v] 98 (0, 0)) := (hg3.block B (by simp; omega) (off_row hrow2 hv2 (box_no v))).trans ((Below.heap_alloc _ _ B hlt2.1).trans hv2)
       obtain ⟨hc3, hf3⟩ := cell_of_box_a hv3
       obtain ⟨g', cap', cur', rfl, hrest⟩ : ∃ g' cap' cur', v' = .slice (some ⟨g', 0, none⟩) (ss.length + 1) cap' ∧ w3.heap[g']? = some (.cells cur' 29 (0, 0)) := by
         rcases hown'.2 with ⟨_, h0⟩ | ⟨g', cap', cur', e, _, hh, _⟩
         · exact absurd h0 (by omega)
         · exact ⟨g', cap', cur', e, hh⟩
       go_frame)
    | gi_round_op_a)
  have hg3' : (W2.alloc (.cells #[enc x] 29)).grownBy w3 v.ownBlock := hg3
  have hL3 : w3.heap[l]? = some (.loop { rec_ fn sv B D .ready none with state := .busy }) := (hg3'.block l (by simp; omega) (off_row hrow2 hL2 (fun cur e => by cases e))).trans ((Below.heap_alloc _ _ l hlt2.2.1).trans hL2)
  have hK3 : w3.heap[D]? = some (.deferred (some [])) := (hg3'.block D (by simp; omega) (off_row hrow2 hK2 (fun cur e => by cases e))).trans ((Below.heap_alloc _ _ D hlt2.2.2).trans hK2)
  obtain ⟨w4, hw4⟩ : ∃ w4, w3.setCell ⟨B, 0, none⟩ (.slice (some ⟨g', 0, none⟩) (ss.length + 1) cap') = w4 := ⟨_, rfl⟩
  rw [hw4]
  have hg4 : w3.grownBy w4 (some B) := by rw [← hw4]; exact grownBy_setCell0_a _ _ _
  have hv4 : w4.heap[B]? = some (.cells #[.slice (some ⟨g', 0, none⟩) (ss.length + 1) cap'] 98 (0, 0)) := by rw [← hw4]; exact heap_setCell_box_a _ hv3
  have hL4 : w4.heap[l]? = some (.loop { rec_ fn sv B D .ready none with state := .busy }) := (hg4.block l (Array.getElem?_eq_some_iff.1 hL3).1 (fun e => hBl (by cases e; rfl))).trans hL3
  have hK4 : w4.heap[D]? = some (.deferred (some [])) := (hg4.block D (Array.getElem?_eq_some_iff.1 hK3).1 (fun e => hDB (by cases e; rfl))).trans hK3
  have hrow4 := hown'.kept hg4 (ownsRow_ne_a hown' hv3 (box_no v))
  have hl4 : l < w4.heap.size := (Array.getElem?_eq_some_iff.1 hL4).1
  have hb3 : Below w0.heap.size w0 w3 := (hb2.alloc hb2.size _).grown hg3' (by have := hb2.size; simp; omega) (fun k e => (hrow2.lt k e).1)
  have hb4 : Below w0.heap.size w0 w4 := hb3.grown hg4 hb3.size (fun k e => by cases e; exact h0B)
  have hk4 : KeepsWalks W w4 := ((hk2.trans (KeepsWalks.alloc _ _)).trans (KeepsWalks.of_grownBy hg3' (ownsRow_not_walk_a (hrow2.alloc _)))).trans (by rw [← hw4]; exact KeepsWalks.setCell _ _ _)
  clear hw4
  refine ⟨_, _, run_endRound none hL4, rfl, ⟨⟨_, (World.putObj_heap_other hBl).trans hv4, ?_⟩, World.putObj_heap_same hl4, (World.putObj_heap_other hDl).trans hK4, hb4.grown (grownBy_putObj_a _ _ _) hb4.size (fun k e => by cases e; exact h0l)⟩, hk4.trans (KeepsWalks.putObj _ hL4 rfl)⟩
  rw [show (ss ++ [x]).length = ss.length + 1 from by simp, List.map_append]
  exact hrow4.kept (grownBy_putObj_a _ _ _) (ownsRow_ne_a hrow4 hL4 (fun cur e => by cases e))
set_option maxRecDepth 100000 in
set_option maxHeartbeats 2000000 in
theorem collect_in (n : Nat) (hn : 2 ≤ n) (g : Nat) (lb : Array Value) (eg : ∀ args w, (callFunc g args).run Try.prog w = .ok (.enter g args) w) (S : List Int → Prop) (N : Nat) (hN : N ≤ 1000000) (w : World) (hseq : SeqGives Fence.wide (n - 1) Try.prog g lb enc S N w) :
    CallsIn Fence.wide n Try.prog 67 #[.slice none 0 0, .func (.func g) #[] lb] w fun e w' => ∃ (v : Value) (ss : List Int), e = .returned v ∧ S ss ∧ w'.ownsRow w.heap.size 29 1 v ss.length (ss.map enc) ∧ Below w.heap.size w w' := by
  refine callsIn_of_wp_marks Try.func67 rfl trivial ?_ rfl
  have hnt := Try.ntmps67
  simp only [hnt, List.size_toArray, List.length_cons, List.length_nil, Nat.reduceAdd, Nat.reduceSub, Array.replicate_succ, Array.replicate_zero, List.push_toArray, List.append_toArray, List.nil_append, List.cons_append]
  clear hnt
  gi_wp2
  refine wpIn_rangeFunc ?_
  intro fn hfn
  obtain ⟨W0, hW0⟩ : ∃ W0, w.alloc (.cells #[.slice none 0 0] 98) = W0 := ⟨_, rfl⟩
  have hs0 : W0.heap.size = w.heap.size + 1 := by rw [← hW0]; simp
  have hv0 : W0.heap[w.heap.size]? = some (.cells #[.slice none 0 0] 98 (0, 0)) := by rw [← hW0]; exact World.alloc_heap_new w _
  have hb0 : Below w.heap.size w W0 := by rw [← hW0]; exact (Below.refl _ w).alloc (Nat.le_refl _) _
  rw [hW0]
  obtain ⟨W1, hW1⟩ : ∃ W1, (W0.alloc (.deferred (some []))).alloc (.loop (rec_ fn (.func (.func g) #[] lb) w.heap.size W0.heap.size .ready none)) = W1 := ⟨_, rfl⟩
  have hold : ∀ k, k < W0.heap.size → W1.heap[k]? = W0.heap[k]? := fun k hk => by
    rw [← hW1]; exact (Below.heap_alloc _ _ k (by simp; omega)).trans (Below.heap_alloc _ _ k hk)
  have hb1 : Below w.heap.size w W1 := by rw [← hW1]; exact (hb0.alloc hb0.size _).alloc (by have := hb0.size; simp; omega) _
  have hs1 : W1.heap.size = W0.heap.size + 2 := by rw [← hW1]; simp
  have hM : Box w fn (.func (.func g) #[] lb) w.heap.size (W0.heap.size + 1) W0.heap.size [] W1 :=
    ⟨⟨_, (hold w.heap.size (by omega)).trans hv0, ⟨rfl, .inl ⟨rfl, rfl⟩⟩⟩,
     by rw [← hW1]; have := World.alloc_heap_new (W0.alloc (.deferred (some []))) (.loop (rec_ fn (.func (.func g) #[] lb) w.heap.size W0.heap.size .ready none)); rwa [World.size_alloc] at this,
     by rw [← hW1]; exact (Below.heap_alloc _ _ _ (by simp)).trans (World.alloc_heap_new W0 _), hb1⟩
  refine ⟨W0.heap.size + 1, [{ target := .collected W0.heap.size, args := #[] }], W1, { target := .fn (.func g) lb, args := #[.func (.yield (W0.heap.size + 1)) #[] #[]] }, W1, g,
    #[.func (.yield (W0.heap.size + 1)) #[] #[]] ++ lb, W1, ?_, ?_, ?_, ?_, fun _ => (by omega), ?_⟩
  · rw [← hW1]; exact run_enterLoop_outer _ _ _ _ _
  · simp [resolve, go_sem]
  · intro f' hf'; exact trivial
  · simp [invoke, go_sem, eg]
  · refine (hseq (W0.heap.size + 1) (Box w fn (.func (.func g) #[] lb) w.heap.size (W0.heap.size + 1) W0.heap.size) W1 hb1 (Box.abides _ _ _ _ _ _ _ hb1.size)
      (fun pre x W hJ hl => round_in (n - 1 - 1) w fn _ w.heap.size (W0.heap.size + 1) W0.heap.size (by omega) (by omega) (by omega) (Nat.le_refl _) (by omega) N hN pre x W hJ hl) hM).mono ?_
    rintro e W2 ⟨⟨v0, rfl⟩, ss, hS, h2⟩
    obtain ⟨v, hv, hrow⟩ := h2.box
    have hend := run_endLoop (P := Try.prog) h2.loop (by simp [rec_, AnyZI.apRec])
    obtain ⟨W3, hW3⟩ : ∃ W3, W2.putObj (W0.heap.size + 1) (.loop { rec_ fn (.func (.func g) #[] lb) w.heap.size W0.heap.size .ready none with state := .exhausted }) = W3 := ⟨_, rfl⟩
    rw [hW3] at hend
    have hg3 : W2.grownBy W3 (some (W0.heap.size + 1)) := by rw [← hW3]; exact grownBy_putObj_a _ _ _
    have hv3 : W3.heap[w.heap.size]? = some (.cells #[v] 98 (0, 0)) := by rw [← hW3]; exact (World.putObj_heap_other (by omega)).trans hv
    have hK3 : W3.heap[W0.heap.size]? = some (.deferred (some [])) := by rw [← hW3]; exact (World.putObj_heap_other (by omega)).trans h2.defers
    have hrow3 := hrow.kept hg3 (ownsRow_ne_a hrow h2.loop (fun cur e => by cases e))
    have hb3 : Below w.heap.size w W3 := h2.below.grown hg3 h2.below.size (fun k e => by cases e; omega)
    obtain ⟨hc3, hf3⟩ := cell_of_box_a hv3
    clear hW3
    refine ⟨none, W3, hend, ?_⟩
    gi_wp2
    rw [← hs0]
    refine ⟨by simp, .inl ⟨_, _, rfl, run_takeDeferred hK3, ?_⟩⟩
    exact ⟨_, results_tmp rfl _ _ _, v, ss, rfl, hS, hrow3.kept (grownBy_putObj_a _ _ _) (ownsRow_ne_a hrow3 hK3 (fun cur e => by cases e)), hb3.grown (grownBy_putObj_a _ _ _) hb3.size (fun k e => by cases e; omega)⟩
end Go.Proofs.Ytgjofinbdigmcaa.Srt
namespace Go.Proofs.Ytgjofinbdigmcaa.Srt
open Go.Proofs.Ytgjofinbdigmcaa.Mem
open Go.RowKit Go.Sort Go.Shelf
set_option linter.unusedVariables false
set_option linter.unusedSimpArgs false
def it : Nat := 60
set_option maxRecDepth 100000 in
set_option maxHeartbeats 1000000 in
theorem gather_any {g : Nat} {lb : Array Value} (eg : ∀ args w, (callFunc g args).run Try.prog w = .ok (.enter g args) w) (S : List Int → Prop) (N : Nat) (hN : N ≤ 1000000) (w : World) (hseq : SeqGives Fence.wide 4 Try.prog g lb enc S N w) :
    Calls Try.prog 58 #[.func (.func g) #[] lb] w fun e w' => ∃ (v : Value) (ss : List Int), e = .returned v ∧ S ss ∧ w'.ownsRow w.heap.size 29 1 v ss.length (ss.map enc) ∧ Below w.heap.size w w' := by
  have HC := Lib.hid (callsIn_wide.1 (collect_in 5 (by omega) g lb eg S N hN w hseq))
  clear hseq
  go_enter Try.func58, Try.ntmps58
  go_wp2_with (first | (go_at_call 67; refine HC.out.mono ?_; rintro e w1 ⟨v, ss, rfl, hS, hr, hb⟩))
  go_ret
  exact ⟨v, ss, rfl, hS, hr, hb⟩
set_option maxRecDepth 100000 in
set_option maxHeartbeats 1000000 in
theorem sorted_any {H : Type} {R : Value → Option (DataW H × List MemPlace)} {b nn : Nat} {D : DataW H} {w : World} (hown : w.ownsMap Try.prog 29 R b nn D) (hs : Maps.size D ≤ 1000000) :
    Calls Try.prog 46 #[.func (.func it) #[] #[.pointer (some ⟨w.heap.size, 0, none⟩)]] (w.alloc (.cells #[.map (some b)] 75)) fun e w' => ∃ (v : Value) (ss : List Int), e = .returned v ∧ All D ss ∧
      w'.ownsRow w.heap.size 29 1 v ss.length ((up ss).map enc) ∧ But (fun _ => False) w w' := by
  have hbl := hown.lt
  have hseq : SeqGives Fence.wide 4 Try.prog it #[.pointer (some ⟨w.heap.size, 0, none⟩)] enc (All D) (Maps.size D) (w.alloc (.cells #[.map (some b)] 75)) := fun l J W hW hJ hY h0 => by
    have hown' : W.ownsMap Try.prog 29 R b nn D := by
      obtain ⟨es, clock, hb, F, hs, hD⟩ := hown
      exact ⟨es, clock, (hW.block b (by simp; omega)).trans ((Below.heap_alloc _ _ b hbl).trans hb), F, hs, hD⟩
    have hm : W.cell? ⟨w.heap.size, 0, none⟩ = some (.map (some b)) := (hW.cell (p := ⟨w.heap.size, 0, none⟩) (by simp)).trans (by simp)
    exact iter_in 4 (by omega) l w.heap.size b nn D J hY W hJ hm hown' h0
  have HG := Lib.hid (gather_any (g := it) (enters_of Try.func60 (by kernel_rfl) rfl) (All D) (Maps.size D) hs _ hseq)
  have HB := Lib.hid ((But.refl (fun _ => False) w).alloc (.cells #[.map (some b)] 75))
  obtain ⟨B, hB⟩ : ∃ B, B = w.heap.size := ⟨_, rfl⟩
  rw [← hB] at HG ⊢
  have hB1 : (w.alloc (.cells #[.map (some b)] 75)).heap.size = B + 1 := by simp [hB]
  generalize w.alloc (.cells #[.map (some b)] 75) = w1 at HG HB hB1
  have HB1 := Lib.hid (And.intro hB hB1)
  clear hseq hown hbl hB hB1
  unfold it at HG ⊢
  go_enter Try.func46, Try.ntmps46
  go_wp2_with fail
  refine HG.out.mono ?_
  rintro e w2 ⟨v, ss, rfl, hA, hr, hb⟩
  have HA := Lib.hid hA
  have HR := Lib.hid hr
  have HB2 := Lib.hid ((HB.out).trans' (But.of_new hb))
  clear hb hA
  rcases hr.2 with ⟨rfl, hz⟩ | ⟨gb, cap, cur, rfl, hbase, hgb, r1, r2, r3, r4⟩
  · have HN := Lib.hid (sort_none none 0)
    have HZ := Lib.hid hz
    clear hr hz
    go_wp2_with (first | (go_at_call 59; refine (HN.out _).mono ?_; rintro e w3 ⟨rfl, rfl⟩))
    go_ret
    obtain rfl : ss = [] := List.eq_nil_of_length_eq_zero HZ.out
    exact ⟨_, [], rfl, HA.out, ⟨by simp [up_length], .inl ⟨rfl, rfl⟩⟩, HB2.out⟩
  · have hH := holds_own (zs := ss) hgb (by simpa using r4)
    have hgl : gb < w2.heap.size := (Array.getElem?_eq_some_iff.1 hgb).1
    have HS := Lib.hid (sort_any ss w2 gb 0 cap hH hgl (by have := HA.out.len; omega))
    have HF := Lib.hid (fun (w' : World) (h : At enc w2 gb 0 (up ss).toArray w') => own_sorted (base := B) (by have := HB1.out.2; omega) hgb r1 r2 r3 h)
    have HGE := Lib.hid (show B ≤ gb from by have := HB1.out.2; omega)
    clear hr hgb hbase r1 r2 r3 r4 hH hgl
    go_wp2_with (first | (go_at_call 59; refine HS.out.mono ?_; rintro e w3 ⟨rfl, hA3⟩; have HA3 := Lib.hid (HF.out _ hA3); clear hA3))
    go_ret
    have h5 := HA3.out
    refine ⟨_, ss, rfl, HA.out, ?_, HB2.out.trans h5.2 (fun i hi e => by have := HGE.out; have := HB1.out.1; omega)⟩
    exact h5.1
end Go.Proofs.Ytgjofinbdigmcaa.Srt
