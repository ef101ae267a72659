/- A row of uint32 that is sorted in place: what it holds in each world of the sort, what is read of it, what an exchange makes. -/
import Derived.Test.YtciplhpnbpmfeaaOwn
import Derived.Test.YtciplhpnbpmfeaaProg
import Derived.Sort.Walk13a
import Derived.Sort.AssemblyPlain
import Derived.WalkKit
import Derived.ProofKit
import Derived.BigQuiet
import Derived.Lib.Hide
import Derived.Below
import Derived.Outline
import Derived.WalkSpells
import Derived.WalkLawsBesides
import Derived.LoopTactic
import Derived.Test.YtciplhpnbpmfeaaLate
import Derived.Deep.CutRange
namespace Go.Proofs.Ytciplhpnbpmfeaa.Srt
open Go.Proofs.Ytciplhpnbpmfeaa.Mem
open Go.RowKit Go.Sort
set_option linter.unusedVariables false
set_option linter.unusedSimpArgs false
abbrev enc (x : Int) : Value := .int .u32 x
/- The row that came in: its block, its offset, how many it has. -/
structure Base (w0 : World) (blk off N : Nat) (d0 : Array Int) : Prop where
  holds : Holds enc w0 blk off d0
  size : d0.size = N
  lt : blk < w0.heap.size
  few : N < 4611686018427387904
structure RW (w0 : World) (blk off N : Nat) (d0 d : Array Int) (w : World) : Prop where
  base : Base w0 blk off N d0
  at_ : At enc w0 blk off d w
  size : d.size = N
theorem set_grow (w : World) (os : Array Obj) {blk : Nat} (k : Nat) (v : Value) (h : blk < w.heap.size) : (grow w os).setCell ⟨blk, k, none⟩ v = grow (w.setCell ⟨blk, k, none⟩ v) os := by
  rw [setCell_eq, mapBlock_grow _ _ _ _ h, ← setCell_eq]
section
variable {w0 w w' : World} {blk off N : Nat} {d0 d d' : Array Int}
theorem RW.start (h : Base w0 blk off N d0) : RW w0 blk off N d0 d0 w0 := ⟨h, At.refl h.holds, h.size⟩
theorem RW.holds (h : RW w0 blk off N d0 d w) : Holds enc w blk off d ∧ blk < w.heap.size := h.at_.holds h.base.holds (h.size.trans h.base.size.symm) h.base.lt
theorem RW.cell (h : RW w0 blk off N d0 d w) {j : Nat} (hj : j < N) : w.cell? ⟨blk, off + j, none⟩ = some (.int .u32 d[j]!) := (h.holds.1 j (by rw [h.size]; exact hj)).1
theorem RW.frozen (h : RW w0 blk off N d0 d w) {j : Nat} (hj : j < N) : w.frozen? ⟨blk, off + j, none⟩ = false := (h.holds.1 j (by rw [h.size]; exact hj)).2
theorem RW.drewN (h : RW w0 blk off N d0 d w) (n : Nat) : RW w0 blk off N d0 d (w.drewN n) := ⟨h.base, h.at_.ahead n, h.size⟩
theorem RW.drew (h : RW w0 blk off N d0 d w) : RW w0 blk off N d0 d w.drew := ⟨h.base, h.at_.ahead 1, h.size⟩
theorem RW.alloc (h : RW w0 blk off N d0 d w) (o : Obj) : RW w0 blk off N d0 d (w.alloc o) := by
  obtain ⟨n, os, rfl⟩ := h.at_
  exact ⟨h.base, ⟨n, os ++ #[o], by rw [alloc_eq_grow, grow_grow]⟩, h.size⟩
/- A store into a block that came behind the row's. -/
theorem RW.newer (h : RW w0 blk off N d0 d w) {g : Nat} (hg : w0.heap.size ≤ g) (i : Nat) (u : Value) : RW w0 blk off N d0 d (w.setCell ⟨g, i, none⟩ u) := by
  obtain ⟨n, os, rfl⟩ := h.at_
  refine ⟨h.base, ⟨n, os.modify (g - w0.heap.size) (onCells (·.setIfInBounds i u)), ?_⟩, h.size⟩
  rw [setCell_eq, mapBlock_grow_new _ _ _ _ (by simpa using hg)]
  simp
/- data[i], data[j] = data[j], data[i] -/
theorem RW.swp (h : RW w0 blk off N d0 d w) {i j : Nat} (hi : i < N) (hj : j < N) : RW w0 blk off N d0 (swp d i j) ((w.setCell ⟨blk, off + i, none⟩ (.int .u32 d[j]!)).setCell ⟨blk, off + j, none⟩ (.int .u32 d[i]!)) := by
  obtain ⟨n, os, rfl⟩ := h.at_
  have hs := h.size
  refine ⟨h.base, ⟨n, os, ?_⟩, by simp [Sort.swp, hs]⟩
  have h1 := h.base.lt
  rw [set_grow _ _ _ _ (by simpa using h1), set_grow _ _ _ _ (by simpa [World.setCell] using h1)]
  congr 1
  exact putRow_swp enc (Go.Sort.ahead w0 n) blk off d i j (by omega) (by omega)
theorem RW.le (h : RW w0 blk off N d0 d w) : w0.heap.size ≤ w.heap.size := by
  obtain ⟨n, os, rfl⟩ := h.at_
  simp
end
end Go.Proofs.Ytciplhpnbpmfeaa.Srt
