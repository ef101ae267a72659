/- slices.Sort of a row of uint32: it holds what it held, sorted; a row of a call's own stays one. -/
import Derived.Test.YtgjofinbdigmcaaSortPdq
import Derived.Sort.WalkA14
namespace Go.Proofs.Ytgjofinbdigmcaa.Srt
open Go.Proofs.Ytgjofinbdigmcaa.Mem
open Go.RowKit Go.Sort
set_option linter.unusedVariables false
set_option linter.unusedSimpArgs false
def up (zs : List Int) : List Int := zs.mergeSort fun x y => decide (x ≤ y)
theorem up_perm (zs : List Int) : (up zs).Perm zs := List.mergeSort_perm _ _
theorem up_length (zs : List Int) : (up zs).length = zs.length := (up_perm zs).length_eq
set_option maxRecDepth 100000 in
set_option maxHeartbeats 1000000 in
theorem sort_any (zs : List Int) (w : World) (blk off cap : Nat) (hH : Holds enc w blk off zs.toArray) (hb : blk < w.heap.size) (hz : zs.length < 4611686018427387904) :
    Calls Try.prog 59 #[.slice (some ⟨blk, off, none⟩) zs.length cap] w fun e w' => e = .returned (.tuple #[]) ∧ At enc w blk off (up zs).toArray w' := by
  obtain ⟨N, hN⟩ : ∃ N, N = zs.length := ⟨_, rfl⟩
  rw [← hN] at hz ⊢
  have hB : Base w blk off N zs.toArray := ⟨hH, by simp [hN], hb, hz⟩
  have hlim : Lib.bitLen N < 4611686018427387904 := by
    have h1 := bitLen_eq N (by omega)
    have h2 := (bitsLen_le_iff N 62).2 (by omega)
    omega
  have HL := Lib.hid (fun w => Try.bits_Len (N : Int) w (by omega) (by omega))
  rw [show ((N : Int)).toNat = N from Int.toNat_natCast N] at HL
  have HP := Lib.hid (pdq_any (N + 1) zs.toArray w (RW.start hB) cap 0 N (Lib.bitLen N) (by omega) (by omega) (Nat.le_refl _) hlim (Or.inl rfl))
  have HN := Lib.hid hN
  have wr : IntKind.u64.wrap (N : Int) = (N : Int) := by simp [IntKind.wrap, IntKind.bits, IntKind.signed]; omega
  clear hN hH hB hlim
  go_enter Try.func59, Try.ntmps59
  go_wp2_with (first
    | (go_at_call 69; refine (HL.out _).mono ?_; rintro e w1 ⟨rfl, rfl⟩)
    | (go_at_call 68; refine HP.out.mono ?_; rintro e w1 ⟨rfl, hR⟩; have HR := Lib.hid hR; clear hR))
  go_end0
  obtain ⟨d', h1, h2, h3⟩ := HR.out
  have h4 := sorted_unique_holds swo_ltInt (fun x y h1 h2 => by simp only [ltInt, decide_eq_false_iff_not] at h1 h2; omega) zs.toArray d' (by simpa [HN.out] using h1) (by simpa [HN.out] using h2)
  have h5 : d' = (up zs).toArray := by
    unfold up
    rw [← Array.toList_inj, h4]
    congr 1
    funext x y
    simp only [ltInt]
    rw [← decide_not]
    exact decide_eq_decide.2 (by omega)
  exact ⟨rfl, h5 ▸ h3.at_⟩
set_option maxRecDepth 100000 in
set_option maxHeartbeats 1000000 in
theorem ins_none (p : Option Addr) (cap : Nat) (w : World) : Calls Try.prog 73 #[.slice p 0 cap, .int .i64 0, .int .i64 0] w fun e w' => e = .returned (.tuple #[]) ∧ w = w' := by
  go_enter Try.func73, Try.ntmps73
  go_wp2
  go_loopw [6] (fun v wr => v = .int .i64 1 ∧ w = wr) (fun v _ => 0)
  case atStart => exact ⟨rfl, rfl⟩
  case round =>
    obtain ⟨rfl, rfl⟩ := hrel
    go_wp2
    go_end0
    exact ⟨rfl, rfl⟩
set_option maxRecDepth 100000 in
set_option maxHeartbeats 1000000 in
theorem pdq_none (p : Option Addr) (cap : Nat) (w : World) : Calls Try.prog 68 #[.slice p 0 cap, .int .i64 0, .int .i64 0, .int .i64 0] w fun e w' => e = .returned (.tuple #[]) ∧ w = w' := by
  have HI := Lib.hid (ins_none p cap)
  go_enter Try.func68, Try.ntmps68
  go_wp2
  go_loopw [1, 2, 3, 8, 9] (fun s1 s2 s3 s8 s9 wr => s1 = .int .i64 0 ∧ s2 = .int .i64 0 ∧ s3 = .int .i64 0 ∧ s8 = .bool true ∧ s9 = .bool true ∧ w = wr) (fun _ _ _ _ _ _ => 0)
  case atStart => exact ⟨rfl, rfl, rfl, rfl, rfl, rfl⟩
  case round =>
    obtain ⟨rfl, rfl, rfl, rfl, rfl, rfl⟩ := hrel
    go_wp2_with (first | (go_at_call 73; refine (HI.out _).mono ?_; rintro e w1 ⟨rfl, rfl⟩))
    (try simp only [Exit.inBlock, Exit.then]); refine bodyPost_ret (results_none rfl _ _ _) rfl ?_
    exact ⟨rfl, rfl⟩
set_option maxRecDepth 100000 in
set_option maxHeartbeats 1000000 in
theorem sort_none (p : Option Addr) (cap : Nat) (w : World) : Calls Try.prog 59 #[.slice p 0 cap] w fun e w' => e = .returned (.tuple #[]) ∧ w = w' := by
  have HL := Lib.hid (fun w => Try.bits_Len 0 w (by omega) (by omega))
  have HP := Lib.hid (pdq_none p cap)
  go_enter Try.func59, Try.ntmps59
  go_wp2_with (first
    | (go_at_call 69; refine (HL.out _).mono ?_; rintro e w1 ⟨rfl, rfl⟩)
    | (go_at_call 68; refine (HP.out _).mono ?_; rintro e w1 ⟨rfl, rfl⟩))
  go_end0
  exact ⟨rfl, rfl⟩
/- A row of the call's own, known by its block. -/
theorem holds_own {w : World} {g : Nat} {cur : Array Value} {zs : List Int} (h : w.heap[g]? = some (.cells cur 29 (0, 0))) (ht : cur.toList.take zs.length = zs.map enc) : Holds enc w g 0 zs.toArray := by
  intro j hj
  have hj' : j < zs.length := by simpa using hj
  refine ⟨?_, by simp [World.frozen?, h]⟩
  rw [cell_of_row _ _ _ _ _ _ h, Nat.zero_add]
  have h1 : (cur.toList.take zs.length)[j]? = (zs.map enc)[j]? := by rw [ht]
  rw [List.getElem?_take_of_lt hj'] at h1
  simp [hj'] at h1
  simp [h1, hj']
theorem own_sorted {w w' : World} {base g cap : Nat} {cur : Array Value} {zs : List Int} (hb : base ≤ g) (h : w.heap[g]? = some (.cells cur 29 (0, 0))) (hl : zs.length ≤ cap) (hm : cap ≤ maxLen) (hc : cur.size = cap * 1)
    (hA : At enc w g 0 (up zs).toArray w') : w'.ownsRow base 29 1 (.slice (some ⟨g, 0, none⟩) zs.length cap) zs.length ((up zs).map enc) ∧ But (fun k => k = g) w w' := by
  obtain ⟨n, os, rfl⟩ := hA
  have hg : g < w.heap.size := (Array.getElem?_eq_some_iff.1 h).1
  have h2 : (grow (putRow enc (Go.Sort.ahead w n) g 0 (up zs).toArray) os).heap[g]? = some (.cells (putCells enc 0 (up zs).toArray cur) 29 (0, 0)) := by
    rw [heap_grow_old _ _ (by simpa using hg)]
    show (w.heap.modify g (onCells _))[g]? = _
    rw [Array.getElem?_modify, if_pos rfl, h]
    rfl
  refine ⟨⟨by simp [up_length], .inr ⟨g, cap, _, rfl, hb, h2, hl, hm, by simpa [putCells] using hc, ?_⟩⟩, ?_⟩
  · apply List.ext_getElem?
    intro i
    rw [Nat.mul_one]
    by_cases hi : i < zs.length
    · rw [List.getElem?_take_of_lt hi]
      have hic : i < cur.size := by omega
      simp [putCells, hic, hi, up_length]
    · rw [List.getElem?_eq_none (by simp; omega), List.getElem?_eq_none (by simp [up_length]; omega)]
  · refine ⟨rfl, rfl, rfl, by simp, fun i hi hne => ?_⟩
    rw [heap_grow_old _ _ (by simpa using hi)]
    show (w.heap.modify g (onCells _))[i]? = _
    rw [Array.getElem?_modify, if_neg (fun e => hne e.symm)]
end Go.Proofs.Ytgjofinbdigmcaa.Srt
