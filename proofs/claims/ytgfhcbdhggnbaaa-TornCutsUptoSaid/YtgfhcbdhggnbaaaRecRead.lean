/- What bytes are read as: a record at the front, and all of them. -/
import Derived.Test.YtgfhcbdhggnbaaaRecMath
import Derived.RowKit
namespace Go.Proofs.Ytgfhcbdhggnbaaa.Rec
open Go.Proofs.Ytgfhcbdhggnbaaa.Mem Go.Proofs.Ytgfhcbdhggnbaaa.Pack
set_option linter.unusedVariables false
set_option linter.unusedSimpArgs false

/- A number that is read as a signed one. -/
def sgn (n : Nat) : Int := RowKit.wrap64 (n : Int)
/- What is read in a row: numbers of so many bytes, and a text. -/
structure Pos where
  zs : List Int
  short : Bool
def Pos.num (p : Pos) (k : Nat) : Nat := Pack.num (got p.zs k)
def Pos.skip (p : Pos) (k : Nat) : Pos := ⟨left p.zs k, shortBy p.zs k p.short⟩
def Pos.txt (p : Pos) : ByteArray := strOfNums (textGot p.zs)
def Pos.past (p : Pos) : Pos := ⟨textLeft p.zs, textShort p.zs p.short⟩
def first (p : Pos) : Rcd :=
  let k := p.num 1
  let p1 := p.skip 1
  let b := p1.num 1
  let p2 := p1.skip 1
  let g := p2.num 4
  let q := p2.skip 4
  if k = 1 then ⟨k, b, g, sgn (q.num 8), sgn ((q.skip 8).num 8), sgn (((q.skip 8).skip 8).num 8), (((q.skip 8).skip 8).skip 8).num 8, ((((q.skip 8).skip 8).skip 8).skip 8).num 4, 0, 0, nothing, nothing, 0, 0⟩
  else if k = 3 then ⟨k, b, g, 0, 0, 0, 0, 0, 0, 0, ((q.skip 8).skip 8).txt, (((q.skip 8).skip 8).past).txt, q.num 8, (q.skip 8).num 8⟩
  else if k = 4 then ⟨k, b, g, 0, 0, 0, 0, 0, 0, 0, (q.skip 8).txt, nothing, q.num 8, 0⟩
  else if k = 5 then ⟨k, b, g, 0, 0, 0, 0, q.num 4, (q.skip 4).num 1, ((q.skip 4).skip 1).num 8, nothing, nothing, 0, 0⟩
  else if k = 6 then ⟨k, b, g, 0, 0, 0, 0, q.num 4, 0, 0, nothing, nothing, 0, 0⟩
  else ⟨k, b, g, 0, 0, 0, 0, 0, 0, 0, nothing, nothing, 0, 0⟩
def behind (p : Pos) : Pos :=
  let k := p.num 1
  let q := ((p.skip 1).skip 1).skip 4
  if k = 1 then ((((q.skip 8).skip 8).skip 8).skip 8).skip 4
  else if k = 3 then (((q.skip 8).skip 8).past).past
  else if k = 4 then (q.skip 8).past
  else if k = 5 then ((q.skip 4).skip 1).skip 8
  else if k = 6 then q.skip 4
  else q
theorem skip_le (p : Pos) (k : Nat) : (p.skip k).zs.length ≤ p.zs.length := left_length_le _ _
theorem past_le (p : Pos) : p.past.zs.length ≤ p.zs.length := Nat.le_trans (left_length_le _ _) (left_length_le _ _)
theorem skip_bytes {p : Pos} (h : Bytes p.zs) (k : Nat) : Bytes (p.skip k).zs := left_bytes h k
theorem past_bytes {p : Pos} (h : Bytes p.zs) : Bytes p.past.zs := left_bytes (left_bytes h 2) _
theorem behind_bytes {p : Pos} (h : Bytes p.zs) : Bytes (behind p).zs := by
  have hq := skip_bytes (skip_bytes (skip_bytes h 1) 1) 4
  unfold behind
  simp only
  split
  · exact skip_bytes (skip_bytes (skip_bytes (skip_bytes (skip_bytes hq 8) 8) 8) 8) 4
  · split
    · exact past_bytes (past_bytes (skip_bytes (skip_bytes hq 8) 8))
    · split
      · exact past_bytes (skip_bytes hq 8)
      · split
        · exact skip_bytes (skip_bytes (skip_bytes hq 4) 1) 8
        · split
          · exact skip_bytes hq 4
          · exact hq
theorem behind_lt (p : Pos) (h : 0 < p.zs.length) : (behind p).zs.length < p.zs.length := by
  have h1 : (p.skip 1).zs.length < p.zs.length := by
    show (left p.zs 1).length < _
    unfold left
    rw [if_pos (by omega)]
    simp; omega
  have hq : (((p.skip 1).skip 1).skip 4).zs.length ≤ (p.skip 1).zs.length := Nat.le_trans (skip_le _ _) (skip_le _ _)
  have key : (behind p).zs.length ≤ (((p.skip 1).skip 1).skip 4).zs.length := by
    unfold behind
    simp only
    split
    · exact Nat.le_trans (skip_le _ _) (Nat.le_trans (skip_le _ _) (Nat.le_trans (skip_le _ _) (Nat.le_trans (skip_le _ _) (skip_le _ _))))
    · split
      · exact Nat.le_trans (past_le _) (Nat.le_trans (past_le _) (Nat.le_trans (skip_le _ _) (skip_le _ _)))
      · split
        · exact Nat.le_trans (past_le _) (skip_le _ _)
        · split
          · exact Nat.le_trans (skip_le _ _) (Nat.le_trans (skip_le _ _) (skip_le _ _))
          · split
            · exact skip_le _ _
            · exact Nat.le_refl _
  omega
/- Whether there is a record that may be at the front. -/
def good (p : Pos) : Bool := decide (May (first p)) && !(behind p).short
/- All records, if there are some to the end. -/
def recs (zs : List Int) : Option (List Rcd) :=
  if h : zs.length = 0 then some []
  else if good ⟨zs, false⟩ then (recs (behind ⟨zs, false⟩).zs).map (first ⟨zs, false⟩ :: ·) else none
termination_by zs.length
decreasing_by exact behind_lt ⟨zs, false⟩ (by simp only; omega)
theorem recs_nil : recs [] = some [] := by
  rw [recs]; rfl
theorem recs_good {zs : List Int} (h0 : 0 < zs.length) (h : good ⟨zs, false⟩ = true) : recs zs = (recs (behind ⟨zs, false⟩).zs).map (first ⟨zs, false⟩ :: ·) := by
  rw [recs, dif_neg (by omega), if_pos h]
theorem recs_bad {zs : List Int} (h0 : 0 < zs.length) (h : good ⟨zs, false⟩ = false) : recs zs = none := by
  rw [recs, dif_neg (by omega), if_neg (by rw [h]; exact Bool.false_ne_true)]
/- The records of a body. -/
def recsOf (zs : List Int) : Option (List Rcd) := if zs.length = 0 then none else recs zs
end Go.Proofs.Ytgfhcbdhggnbaaa.Rec
