/- Of frames that are cut: how many are ahead of the cut; lists of records that came in; a row of the frames' ends. -/
import Derived.Test.YtkppliljlcihmaaGreatDoorTornA
namespace Go.Proofs.YtkppliljlcihmaaGreatDoor.Torn
open Go.Proofs.YtkppliljlcihmaaGreatDoor.Mem Go.Proofs.YtkppliljlcihmaaGreatDoor.Err
open Go.Proofs.YtkppliljlcihmaaGreatDoor.Rec (Rcd recsOf Is May okBody Recs rcl)
open Go.Proofs.YtkppliljlcihmaaGreatDoor.Frame (In frm)
open Go.ChangeShapes Go.WideShapes Go.ChangeAt Go.RowKit
set_option linter.unusedVariables false
set_option linter.unusedSimpArgs false

/- How many bytes the first k frames have. -/
def upTo (ls : List (List Rcd)) (k : Nat) : Nat := ((ls.take k).map size).sum
theorem upTo_zero (ls : List (List Rcd)) : upTo ls 0 = 0 := rfl
theorem upTo_cons (l : List Rcd) (ls : List (List Rcd)) (k : Nat) : upTo (l :: ls) (k + 1) = size l + upTo ls k := rfl
theorem upTo_succ (ls : List (List Rcd)) (k : Nat) (h : k < ls.length) : upTo ls (k + 1) = upTo ls k + size ls[k] := by
  unfold upTo
  rw [List.take_succ_eq_append_getElem h, List.map_append, List.sum_append]
  simp
theorem size_pos (l : List Rcd) : 8 ≤ size l := Nat.le_add_left _ _
theorem frames_take (ls : List (List Rcd)) (k : Nat) : (frames (ls.take k)).length = upTo ls k := by
  induction ls generalizing k with
  | nil => simp [frames, upTo]
  | cons l ls ih =>
    rcases k with _ | k
    · rfl
    · rw [List.take_succ_cons, frames_cons, List.length_append, frm_size, ih, upTo_cons]
theorem frames_length (ls : List (List Rcd)) : (frames ls).length = upTo ls ls.length := by
  have := frames_take ls ls.length
  rwa [List.take_length] at this
theorem frames_snoc (ls : List (List Rcd)) (k : Nat) (h : k < ls.length) : frames (ls.take (k + 1)) = frames (ls.take k) ++ frm (Rec.body ls[k]) := by
  unfold frames
  rw [List.take_succ_eq_append_getElem h, List.flatMap_append]
  simp
theorem upTo_le (ls : List (List Rcd)) (k : Nat) (n : Nat) (hn : ∀ l ∈ ls, size l ≤ n) : upTo ls k ≤ k * n := by
  induction ls generalizing k with
  | nil => simp [upTo]
  | cons l ls ih =>
    rcases k with _ | k
    · simp [upTo]
    · rw [upTo_cons, Nat.succ_mul]
      have h1 := hn l List.mem_cons_self
      have h2 := ih k (fun x hx => hn x (List.mem_cons_of_mem _ hx))
      omega
/- The one count that the frames' ends tell. -/
theorem ahead_eq (ls : List (List Rcd)) (cut want : Nat) (h1 : want ≤ ls.length) (h2 : upTo ls want ≤ cut) (h3 : want < ls.length → cut < upTo ls (want + 1)) : ahead cut ls = want := by
  induction ls generalizing cut want with
  | nil => simp at h1; subst h1; rfl
  | cons l ls ih =>
    unfold ahead
    rcases want with _ | want
    · have h4 := h3 (by simp)
      rw [upTo_cons, upTo_zero] at h4
      rw [if_neg (by omega)]
    · rw [upTo_cons] at h2
      rw [if_pos (by omega), ih (cut - size l) want (by simpa using h1) (by omega) (fun h => by
        have h4 := h3 (by simpa using h)
        rw [upTo_cons] at h4
        omega)]
theorem ahead_at (ls : List (List Rcd)) (want : Nat) (h1 : want ≤ ls.length) : ahead (upTo ls want) ls = want :=
  ahead_eq ls _ want h1 (Nat.le_refl _) (fun h => by
    rw [upTo_succ ls want h]
    have := size_pos ls[want]
    omega)
theorem total_pieces (at_ : Nat) (ls : List (List Rcd)) (k : Nat) : total (piecesOf at_ (ls.take k)) = upTo ls k := by
  induction ls generalizing at_ k with
  | nil => simp [piecesOf, total, upTo]
  | cons l ls ih =>
    rcases k with _ | k
    · rfl
    · rw [List.take_succ_cons, upTo_cons]
      unfold piecesOf
      rw [total_cons, ih]
theorem pieces_length (at_ : Nat) (ls : List (List Rcd)) : (piecesOf at_ ls).length = ls.length := by
  induction ls generalizing at_ with
  | nil => rfl
  | cons l ls ih => unfold piecesOf; rw [List.length_cons, List.length_cons, ih]
theorem pieces_get (at_ : Nat) (ls : List (List Rcd)) (i : Nat) (h : i < ls.length) : ((piecesOf at_ ls)[i]?).map (·.l) = some ls[i] := by
  induction ls generalizing at_ i with
  | nil => simp at h
  | cons l ls ih =>
    unfold piecesOf
    rcases i with _ | i
    · rfl
    · rw [List.getElem?_cons_succ, ih _ i (by simpa using h)]
      rfl
section
variable {ls : List (List Rcd)}
/- Scanned again, what was told is whole. -/
theorem whole_told (hok : ∀ l ∈ ls, okBody l) (hi : ∀ l ∈ ls, ∀ r ∈ l, Is r) (want : Nat) (h1 : want ≤ ls.length) : isWhole ((frames ls).take (upTo ls want)) = true := by
  unfold isWhole
  rw [scan_cut ls hok hi, ahead_at ls want h1, total_pieces, List.length_take, frames_length]
  have : upTo ls want ≤ upTo ls ls.length := by
    rw [← frames_take, ← frames_length]
    have h : frames ls = frames (ls.take want) ++ frames (ls.drop want) := by
      unfold frames
      rw [← List.flatMap_append, List.take_append_drop]
    rw [h, List.length_append]; omega
  rw [Nat.min_eq_left this]
  simp
theorem whole_cut (hok : ∀ l ∈ ls, okBody l) (hi : ∀ l ∈ ls, ∀ r ∈ l, Is r) (cut want : Nat) (hc : cut ≤ (frames ls).length) (h1 : want ≤ ls.length) (h2 : upTo ls want ≤ cut) (h3 : want < ls.length → cut < upTo ls (want + 1)) : isWhole ((frames ls).take cut) = (cut == upTo ls want) := by
  unfold isWhole
  rw [scan_cut ls hok hi, ahead_eq ls cut want h1 h2 h3, total_pieces, List.length_take, Nat.min_eq_left hc]
  by_cases h : upTo ls want = cut
  · simp [h]
  · have e1 : (upTo ls want == cut) = false := beq_eq_false_iff_ne.2 h
    have e2 : (cut == upTo ls want) = false := beq_eq_false_iff_ne.2 (fun e => h e.symm)
    rw [e1, e2]
end
/- Lists of records that came in. -/
structure Lg where
  a : Option Addr
  cap : Nat
  l : List Rcd
def Lists (w : World) (a : Option Addr) (gs : List Lg) : Prop :=
  (∀ g ∈ gs, Recs w g.a g.l) ∧ (0 < gs.length → ∃ b off, a = some ⟨b, off, none⟩ ∧ b < w.heap.size ∧ ∀ i (h : i < gs.length), w.cell? ⟨b, off + i, none⟩ = some (.slice gs[i].a gs[i].l.length gs[i].cap))
theorem Lists.below {w w' : World} {a : Option Addr} {gs : List Lg} (h : Lists w a gs) (hb : Below w.heap.size w w') : Lists w' a gs := by
  refine ⟨fun g hg => (h.1 g hg).below hb, fun hn => ?_⟩
  obtain ⟨b, off, rfl, hlt, hc⟩ := h.2 hn
  exact ⟨b, off, rfl, Nat.lt_of_lt_of_le hlt hb.size, fun i hi => (hb.cell (p := ⟨b, off + i, none⟩) hlt).trans (hc i hi)⟩
/- The ends of the first frames. -/
def endsOf (ls : List (List Rcd)) (k : Nat) : List Value := (List.range k).map fun i => .int .i64 ((upTo ls (i + 1) : Nat) : Int)
theorem endsOf_length (ls : List (List Rcd)) (k : Nat) : (endsOf ls k).length = k := by simp [endsOf]
theorem endsOf_succ (ls : List (List Rcd)) (k : Nat) : endsOf ls (k + 1) = endsOf ls k ++ [.int .i64 ((upTo ls (k + 1) : Nat) : Int)] := by
  unfold endsOf
  rw [List.range_succ, List.map_append]
  rfl
theorem endsOf_get (ls : List (List Rcd)) (k i : Nat) (h : i < k) : (endsOf ls k)[i]? = some (.int .i64 ((upTo ls (i + 1) : Nat) : Int)) := by
  unfold endsOf
  simp [h]
theorem int_info : (Tryz.prog.info? 3).map (fun i => (i.zero, i.size, i.bytes)) = some (some (.int .i64 0), 1, 8) := by kernel_rfl
end Go.Proofs.YtkppliljlcihmaaGreatDoor.Torn
