/- Contract of crc.Table: it returns the 256 registers, and changes nothing that was there. -/
import Derived.Test.YtemhjfoookimnaaCrcAdd
import Derived.Deep.WholeRow
import Derived.Great.BuildSlice
namespace Go.Proofs.Ytemhjfoookimnaa.Crc
open Go.Proofs.Ytemhjfoookimnaa.Mem
open Go.ChangeShapes Go.WideShapes Go.ChangeAt Go.RowKit
set_option linter.unusedVariables false

def zrow : Array Value := Array.replicate 256 (.int .u32 0)
def part : Nat → Array Value
  | 0 => zrow
  | k + 1 => (part k).setIfInBounds k (.int .u32 ((shN 8 k : Nat) : Int))
theorem part_size (k : Nat) : (part k).size = 256 := by
  induction k with
  | zero => simp [part, zrow]
  | succ k ih => simp [part, ih]
theorem part_at {k i : Nat} (hi : i < k) (h : i < 256) : (part k)[i]? = some (.int .u32 ((shN 8 i : Nat) : Int)) := by
  induction k with
  | zero => omega
  | succ k ih =>
    show ((part k).setIfInBounds k _)[i]? = _
    rw [Array.getElem?_setIfInBounds]
    by_cases e : k = i
    · subst e; simp [part_size, h]
    · rw [if_neg e]; exact ih (by omega)
theorem part_one (k : Nat) : (part k).all (·.oneCell') = true := by
  apply Array.all_eq_true_iff_forall_mem.2
  induction k with
  | zero =>
    intro v hv
    simp [part, zrow] at hv
    subst hv; rfl
  | succ k ih =>
    intro v hv
    have := Array.mem_or_eq_of_mem_setIfInBounds hv
    rcases this with h | rfl
    · exact ih v h
    · rfl
theorem info_table : (Try.prog.info? 28).map (fun i => (i.zero, i.size)) = some (some (.agg zrow), 256) := by kernel_rfl

def Tab (w wr : World) (k : Nat) : Prop :=
  wr.heap[w.heap.size]? = some (.cells zrow 28 (0, 0)) ∧ wr.heap[w.heap.size + 1]? = some (.cells (part k) 28 (0, 0)) ∧ wr.heap.size = w.heap.size + 2 ∧ Below w.heap.size w wr
theorem tab_start (w : World) : Tab w ((w.alloc (.cells zrow 28)).alloc (.cells zrow 28)) 0 :=
  ⟨heap_alloc2_old _ _ _, heap_alloc2_new _ _ _, by simp, ((Below.refl _ _).alloc (Nat.le_refl _) _).alloc (by simp) _⟩
theorem tab_step {w wr : World} {k : Nat} (h : Tab w wr k) : Tab w (wr.setCell ⟨w.heap.size + 1, k, none⟩ (.int .u32 ((shN 8 k : Nat) : Int))) (k + 1) := by
  obtain ⟨h1, h2, h3, h4⟩ := h
  refine ⟨?_, ?_, ?_, ?_⟩
  · rw [heap_setCell_other _ _ _ _ (by simp)]; exact h1
  · exact heap_setCell_same _ _ _ _ _ _ h2
  · simpa [World.setCell] using h3
  · exact h4.setCell (by simp) _

theorem below_setRow {B : Nat} {a w : World} (h : Below B a w) {g : Nat} (hg : B ≤ g) (cs : Array Value) : Below B a (w.setRow g cs) :=
  h.trans ⟨rfl, rfl, rfl, by simp, fun k hk => setRow_other w g k cs (by omega)⟩

set_option maxHeartbeats 1000000 in
set_option maxRecDepth 100000 in
theorem table_any (w : World) :
    Calls Try.prog 10 #[] w fun e w' => e = .returned (.agg (part 256)) ∧ Below w.heap.size w w' := by
  obtain ⟨hz, hs⟩ := zero_of_info (P := Try.prog) info_table
  have HS := Lib.hid hs
  clear hs
  go_enter Try.func10, Try.ntmps10
  go_wp2
  clear hz
  go_loopw [2, 3] (fun _ i wr => ∃ k : Nat, k ≤ 256 ∧ i = .int .i64 k ∧ Tab w wr k) (fun _ i _ => 256 - (intOf i).toNat)
  case atStart => exact ⟨0, by omega, rfl, tab_start w⟩
  case round =>
    obtain ⟨k, hk, rfl, hT⟩ := hrel
    by_cases hlt : k < 256
    · obtain ⟨v0, hc⟩ : ∃ v0, wr.cell? ⟨w.heap.size + 1, k, none⟩ = some v0 :=
        ⟨(part k)[k]'(by rw [part_size]; exact hlt), by rw [cell_of_row _ _ _ _ _ _ hT.2.1]; simp⟩
      have hf : wr.frozen? ⟨w.heap.size + 1, k, none⟩ = false := frozen_of_row _ _ _ _ _ hT.2.1
      have HT := Lib.hid (tab_step hT)
      clear hT
      go_wp2_with (go_at_call 13; refine (shiftByte_any k (by omega) _).mono ?_; rintro e w' ⟨rfl, rfl⟩)
      go_roundw
      case rel => exact ⟨k + 1, by omega, by go_num, HT.out⟩
      case measure => simp [intOf]; omega
    · obtain rfl : k = 256 := by omega
      have h1 := Lib.hid hT.1
      have h2 := Lib.hid hT.2.1
      have h4 := hT.2.2.2
      clear hT
      have hsz : (Try.prog.info? 28).map (·.size) = some (part 256).size := by rw [part_size]; exact HS.out
      have HZ := Lib.hid hsz
      clear hsz
      have hzz : zrow.size = (part 256).size := by rw [part_size]; simp [zrow]
      have HZZ := Lib.hid hzz
      clear hzz
      go_wp2_with (first
        | (refine wpList_load_row rfl 28 _ rfl (w.heap.size + 1) rfl 28 _ (0, 0) _ h2.out Try.underlying28 rfl HZ.out ?_)
        | (refine wpList_store_rowTo rfl 28 _ _ rfl rfl w.heap.size (part 256) rfl rfl 28 zrow h1.out HZ.out HZZ.out (part_one 256) ?_))
      exact bodyPost_ret (results_cell_row rfl _ _ w.heap.size 28 (part 256) (0, 0) _ rfl (setRow_heap _ _ _ _ _ _ h1.out) Try.underlying28 rfl HZ.out) rfl ⟨rfl, below_setRow h4 (Nat.le_refl _) _⟩
end Go.Proofs.Ytemhjfoookimnaa.Crc
