/- The document's example, at the head of both statements. -/
import Derived.Test.YtdkknjgjogekiaaExpLaw
namespace Go.Proofs.Ytdkknjgjogekiaa.Exp
open Go.Proofs.Ytdkknjgjogekiaa.Mem
open Go.ChangeShapes Go.WideShapes Go.ChangeAt Go.RowKit
set_option linter.unusedVariables false
set_option linter.unusedSimpArgs false
def ia : It := ⟨5, ⟨#[97]⟩⟩
def ib : It := ⟨5, ⟨#[98]⟩⟩
def ic : It := ⟨3, ⟨#[99]⟩⟩
theorem ins1 : ins [] ib = [ib] := by kernel_rfl
theorem ins2 : ins [ib] ic = [ic, ib] := by kernel_rfl
theorem ins3 : ins [ic, ib] ia = [ic, ia, ib] := by kernel_rfl
/- A heap of the call's own, made since W. -/
structure Live (W wr : World) (p : Nat) (v : Value) (m : List It) : Prop where
  heap : HM wr p p v m
  low : W.heap.size ≤ p
  but : But (fun _ => False) W wr
section
variable {W w w' : World} {p : Nat} {v v' : Value} {l m m' : List It}
theorem Live.turn (h : Live W w p v m) (hb : But (Foot p v) w w') (hm : HM w' p p v' m') : Live W w' p v' m' :=
  ⟨hm, h.low, h.but.trans hb (fun i hi e => by
    have := h.low
    rcases e with e | e
    · omega
    · have := (h.heap.lt.2 i e.symm).1; omega)⟩
theorem Live.new (h : Live W w p v m) (hb : But (fun _ => False) w w') : Live W w' p v m := ⟨h.heap.new hb, h.low, h.but.trans hb (fun _ _ h => h)⟩
theorem Live.off (h : Live W w p v m) {k : Nat} (h1 : k ≠ p) (h2 : ∀ j, v.ownBlock = some j → k ≠ j) : ¬ Foot p v k := by
  rintro (e | e)
  · exact h1 e
  · exact h2 k e.symm rfl
theorem Live.newer (h : Live W w p v m) {k : Nat} (hk : w.heap.size ≤ k) : ¬ Foot p v k := h.off (by have := h.heap.lt.1; omega) (fun j hj => by have := (h.heap.lt.2 j hj).2.1; omega)
theorem live_new {w1 : World} (hw : But (fun _ => False) W w1) (h : HM w' w1.heap.size w1.heap.size v m) (hb : But (fun _ => False) w1 w') : Live W w' w1.heap.size v m :=
  ⟨h, hw.size, hw.trans hb (fun _ _ h => h)⟩
theorem boxed_blk (w : World) (x : It) (t : TypeId) : Blk (w.alloc (.cells #[.int .u64 (x.time : Int), .string x.key] t)) w.heap.size t #[.int .u64 (x.time : Int), .string x.key] := Blk.new _ _ _
set_option maxRecDepth 100000 in
set_option maxHeartbeats 1000000 in
theorem up_any (w : World) : Calls Try.prog 5 #[] w fun e w' => e = .returned (.bool true) ∧ But (fun _ => False) w w' := by
  have HN := Lib.hid (hnew_any w)
  go_enter Try.func5, Try.ntmps5
  go_wp2_with fail
  refine HN.out.mono ?_
  rintro e w1 ⟨rfl, hM, hB⟩
  have hL := live_new (But.refl _ w) hM hB
  clear HN hM hB
  obtain ⟨p, hp⟩ : ∃ p, p = w.heap.size := ⟨_, rfl⟩
  rw [← hp] at hL ⊢
  clear hp
  have HP := Lib.hid (hpush_any' hL.heap ib (by simp))
  rw [ins1] at HP
  have HL := Lib.hid hL
  clear hL
  go_wp2_with fail
  refine HP.out.mono ?_
  rintro e w2 ⟨rfl, v2, hM, hB, hn⟩
  have hL := HL.out.turn hB hM
  have HP := Lib.hid (hpush_any' hL.heap ic (by simp))
  rw [ins2] at HP
  have HL := Lib.hid hL
  clear hL hM hB hn
  go_wp2_with fail
  refine HP.out.mono ?_
  rintro e w3 ⟨rfl, v3, hM, hB, hn⟩
  have hL := HL.out.turn hB hM
  have HP := Lib.hid (hpush_any' hL.heap ia (by simp))
  rw [ins3] at HP
  have HL := Lib.hid hL
  clear hL hM hB hn
  go_wp2_with fail
  refine HP.out.mono ?_
  rintro e w4 ⟨rfl, v4, hM, hB, hn⟩
  have hL := HL.out.turn hB hM
  have HP := Lib.hid (hpop_yes hL.heap)
  have HL := Lib.hid hL
  clear hL hM hB hn
  go_wp2_with fail
  refine HP.out.mono ?_
  rintro e w5 ⟨rfl, v5, hM, hB, hn⟩
  have hL := HL.out.turn hB hM
  have hb6 : But (fun _ => False) w5 (w5.alloc (.cells #[.int .u64 (ic.time : Int), .string ic.key] 29)) := (But.refl _ w5).alloc _
  have HX := Lib.hid (boxed_blk w5 ic 29)
  have hL6 := hL.new hb6
  have HD := Lib.hid (show Calls Try.prog 11 #[.pointer (some ⟨p, 0, none⟩), .int .u64 5] (w5.alloc (.cells #[.int .u64 (ic.time : Int), .string ic.key] 29)) _ from hdue_any hL6.heap 5)
  have HNF := Lib.hid (hL.newer (Nat.le_refl _))
  have hfo : Foot p v5 = Foot p v5 := rfl
  have HL := Lib.hid hL6
  clear hL hL6 hM hB hn hb6 HP hfo
  go_wp2_with fail
  refine HD.out.mono ?_
  rintro e w7 ⟨j, x, v7, rfl, hD, hend⟩
  have hj : j = 2 := by
    have hle : j ≤ 2 := hD.le
    rcases Nat.lt_or_ge j 2 with h | h
    · have h1 := hend h
      rcases j with _ | _ | j
      · exact absurd h1 (by decide)
      · exact absurd h1 (by decide)
      · omega
    · omega
  subst hj
  have hL := HL.out.turn hD.but hD.heap
  have hrow : w7.ownsRow (w5.alloc (.cells #[.int .u64 (ic.time : Int), .string ic.key] 29)).heap.size 29 2 x 2 (rowI [ia, ib]) := hD.row
  obtain ⟨a, c, rfl, hs, hg⟩ := Shows.of_own hrow
  have hx7 := HX.out.but hD.but (fun e => by
    rcases e with e | e
    · exact HNF.out (.inl e)
    · exact HNF.out (.inr e))
  obtain ⟨g, off, ha, hgl, hr⟩ := hs.cells (i := 0) (by simp)
  have HPN := Lib.hid (hpop_no (show HM w7 p p v7 [] from hL.heap))
  have HX := Lib.hid hx7
  have HL := Lib.hid (show Live w w7 p v7 [] from hL)
  have HR := Lib.hid (show w7.cell? ⟨g, off + 1, none⟩ = some (.string ⟨#[97]⟩) from hr 1 _ rfl)
  clear hL hrow hs hg hx7 hr hD hend HD HNF
  subst ha
  go_wp2_with fail
  refine HPN.out.mono ?_
  rintro e w8 ⟨rfl, hB⟩
  have hb9 := hB.alloc (.cells #[.int .u64 0, .string ⟨#[]⟩] 29)
  have hL := HL.out.new hb9
  have x1 : (w8.alloc (.cells #[.int .u64 0, .string ⟨#[]⟩] 29)).cell? ⟨w5.heap.size, 1, none⟩ = some (.string ⟨#[99]⟩) := (HX.out.but hb9 (fun h => h)).cell 1
  have r1 : (w8.alloc (.cells #[.int .u64 0, .string ⟨#[]⟩] 29)).cell? ⟨g, off + 1, none⟩ = some (.string ⟨#[97]⟩) := (hb9.cell (p := ⟨g, off + 1, none⟩) hgl (fun h => h)).trans HR.out
  have HLN := Lib.hid (hlen_any hL.heap)
  have HL := Lib.hid hL
  clear hL hb9 hB HPN HX HR
  go_wp2_with fail
  refine HLN.out.mono ?_
  rintro e w9 ⟨rfl, rfl⟩
  clear x1 r1
  go_wp2_with fail
  go_ret
  exact ⟨rfl, HL.out.but⟩
end
end Go.Proofs.Ytdkknjgjogekiaa.Exp
