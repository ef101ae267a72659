/- CrcRows holds for every number: the walk of the law; the shell that lifts it stands in its own text. -/
import Derived.Test.YtemhjfoookimnaaCrcTable
import Derived.Deep.QuietTactic
import Derived.BigQuiet
namespace Go.Proofs.Ytemhjfoookimnaa.Crc
open Go.Proofs.Ytemhjfoookimnaa.Mem
open Go.ChangeShapes Go.WideShapes Go.ChangeAt Go.RowKit
set_option linter.unusedVariables false

theorem row_quiet (n : Nat) (hn : n < 4294967296) (w : World) :
    Calls Try.prog 11 #[.int .i64 (n : Int)] w fun e w' => e = .returned (.int .u32 ((shN 8 n : Nat) : Int)) ∧ w' = w :=
  (row_any n hn w).mono fun _ _ h => ⟨h.1, h.2.symm⟩

theorem rows_below {w w1 w2 : World} (hb1 : Below w.heap.size w w1) (hb2 : Below w1.heap.size w1 w2) :
    Below w.heap.size w ((w2.alloc (.cells zrow 28)).setRow w2.heap.size (part 256)) := by
  have h := hb1.trans (hb2.mono hb1.size)
  exact below_setRow (h.alloc h.size _) h.size _
theorem rows_cell (w2 : World) (k : Nat) (hk : k < 256) :
    ((w2.alloc (.cells zrow 28)).setRow w2.heap.size (part 256)).cell? ⟨w2.heap.size, k, none⟩ = some (.int .u32 ((shN 8 k : Nat) : Int)) := by
  rw [cell_setRow_same _ _ _ _ _ _ _ (heap_alloc_new _ _), part_at hk hk]

set_option maxHeartbeats 1000000 in
set_option maxRecDepth 100000 in
theorem rows_law (n : Int) (w : World) (hn : (-9223372036854775808) ≤ n ∧ n ≤ 9223372036854775807) :
    Calls Try.prog 4 #[.int .i64 n] w fun e w' => e = .returned (.bool true) ∧ Below w.heap.size w w' := by
  obtain ⟨hz, hs⟩ := zero_of_info (P := Try.prog) info_table
  have hsz : (Try.prog.info? 28).map (·.size) = some (part 256).size := by rw [part_size]; exact hs
  have HZ := Lib.hid hsz
  have HZZ := Lib.hid (show zrow.size = (part 256).size by rw [part_size]; simp [zrow])
  clear hsz hs
  by_cases h0 : n < 0
  · go_enter Try.func4, Try.ntmps4
    go_wp2_with (first
      | (go_at_call 6; refine (up_any _).mono ?_; rintro e w1 ⟨rfl, hb1⟩)
      | (go_at_call 10; refine (table_any _).mono ?_; rintro e w2 ⟨rfl, hb2⟩)
      | (refine wpList_store_rowTo rfl 28 _ _ rfl rfl w2.heap.size (part 256) rfl rfl 28 zrow (heap_alloc_new _ _) HZ.out HZZ.out (part_one 256) ?_))
    go_ret
    exact ⟨rfl, rows_below hb1 hb2⟩
  by_cases h1 : 255 < n
  · go_enter Try.func4, Try.ntmps4
    go_wp2_with (first
      | (go_at_call 6; refine (up_any _).mono ?_; rintro e w1 ⟨rfl, hb1⟩)
      | (go_at_call 10; refine (table_any _).mono ?_; rintro e w2 ⟨rfl, hb2⟩)
      | (refine wpList_store_rowTo rfl 28 _ _ rfl rfl w2.heap.size (part 256) rfl rfl 28 zrow (heap_alloc_new _ _) HZ.out HZZ.out (part_one 256) ?_))
    go_ret
    exact ⟨rfl, rows_below hb1 hb2⟩
  · obtain ⟨k, rfl⟩ : ∃ k : Nat, n = (k : Int) := ⟨n.toNat, by omega⟩
    clear h0 hn
    have hk : k < 256 := by omega
    go_enter Try.func4, Try.ntmps4
    go_wp2_with (first
      | (go_at_call 6; refine (up_any _).mono ?_; rintro e w1 ⟨rfl, hb1⟩)
      | (go_at_call 10; refine (table_any _).mono ?_; rintro e w2 ⟨rfl, hb2⟩)
      | (refine wpList_store_rowTo rfl 28 _ _ rfl rfl w2.heap.size (part 256) rfl rfl 28 zrow (heap_alloc_new _ _) HZ.out HZZ.out (part_one 256) ?_))
    have hc := rows_cell w2 k hk
    have hbel := rows_below hb1 hb2
    clear hz
    obtain ⟨W, hW⟩ : ∃ W, W = (w2.alloc (.cells zrow 28)).setRow w2.heap.size (part 256) := ⟨_, rfl⟩
    rw [← hW] at hc hbel ⊢
    clear hW
    go_quiet ((go_at_call 11; exact Calls.quiet_of_same (row_quiet k (by omega) _)))
    go_wp2
    go_ret
    exact ⟨rfl, ⟨hbel.os, hbel.tape, hbel.output, hbel.size, hbel.block⟩⟩
end Go.Proofs.Ytemhjfoookimnaa.Crc
