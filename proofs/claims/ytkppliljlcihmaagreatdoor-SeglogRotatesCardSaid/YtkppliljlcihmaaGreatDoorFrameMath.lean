/- Layer 5 by plain lists: a frame, and what any bytes begin with. -/
import Derived.Test.YtkppliljlcihmaaGreatDoorGB
import Derived.Test.YtkppliljlcihmaaGreatDoorGI
namespace Go.Proofs.YtkppliljlcihmaaGreatDoor.Frame
open Go.Proofs.YtkppliljlcihmaaGreatDoor.Mem
open Go.Proofs.YtkppliljlcihmaaGreatDoor.Pack (put num got left shortBy put_length put_bytes num_put num_got_lt left_bytes got_bytes)
open Go.Proofs.YtkppliljlcihmaaGreatDoor.Crc (sumOf sumOf_lt)
set_option linter.unusedVariables false

def frm (zs : List Int) : List Int := put zs.length 4 ++ put (sumOf 0 zs) 4 ++ zs
def head (bs : List Int) : Nat := num (got bs 4)
def told (bs : List Int) : Nat := num (got (left bs 4) 4)
def inner (bs : List Int) : List Int := (bs.drop 8).take (head bs)
def bad (bs : List Int) : Nat :=
  if bs.length < 8 then 3 else if head bs < 1 ∨ 20000 < head bs then 2 else if bs.length < 8 + head bs then 3 else if sumOf 0 (inner bs) ≠ told bs then 4 else 0
def body (bs : List Int) : List Int := if bad bs = 0 then inner bs else []
def many (bs : List Int) : Nat := if bad bs = 0 then 8 + head bs else 0

theorem frm_length (zs : List Int) : (frm zs).length = zs.length + 8 := by
  unfold frm
  rw [List.length_append, List.length_append, put_length, put_length]; omega
theorem frm_bytes {zs : List Int} (h : Bytes zs) : Bytes (frm zs) := bytes_append (bytes_append (put_bytes _ _) (put_bytes _ _)) h
theorem got_take {bs : List Int} {k m : Nat} (hk : k ≤ m) (hm : m ≤ bs.length) : got (bs.take m) k = got bs k := by
  unfold got
  rw [if_pos (by rw [List.length_take]; omega), if_pos (by omega), List.take_take, Nat.min_eq_left hk]
theorem left_take {bs : List Int} {k m : Nat} (hk : k ≤ m) (hm : m ≤ bs.length) : left (bs.take m) k = (left bs k).take (m - k) := by
  unfold left
  rw [if_pos (by rw [List.length_take]; omega), if_pos (by omega), List.drop_take]
theorem left_length {bs : List Int} {k : Nat} (hk : k ≤ bs.length) : (left bs k).length = bs.length - k := by
  unfold left
  rw [if_pos hk, List.length_drop]
theorem head_take {bs : List Int} (h : 8 ≤ bs.length) : num (got (bs.take 8) 4) = head bs := by
  rw [got_take (by omega) h]; rfl
theorem told_take {bs : List Int} (h : 8 ≤ bs.length) : num (got (left (bs.take 8) 4) 4) = told bs := by
  rw [left_take (by omega) h, got_take (by omega) (by rw [left_length (by omega)]; omega)]; rfl
theorem head_lt {bs : List Int} (h : Bytes bs) : head bs < 18446744073709551616 := num_got_lt h (by omega)
theorem told_lt {bs : List Int} (h : Bytes bs) : told bs < 18446744073709551616 := num_got_lt (left_bytes h 4) (by omega)
theorem inner_length {bs : List Int} (h : 8 + head bs ≤ bs.length) : (inner bs).length = head bs := by
  unfold inner
  rw [List.length_take, List.length_drop]; omega
theorem inner_bytes {bs : List Int} (h : Bytes bs) : Bytes (inner bs) := bytes_take (bytes_drop h 8) _
theorem bad_short {bs : List Int} (h : bs.length < 8) : bad bs = 3 := if_pos h
theorem bad_form {bs : List Int} (h : 8 ≤ bs.length) (h2 : head bs < 1 ∨ 20000 < head bs) : bad bs = 2 := by
  unfold bad
  rw [if_neg (by omega), if_pos h2]
theorem bad_trunc {bs : List Int} (h : 8 ≤ bs.length) (h1 : 1 ≤ head bs) (h2 : head bs ≤ 20000) (h3 : bs.length < 8 + head bs) : bad bs = 3 := by
  unfold bad
  rw [if_neg (by omega), if_neg (by omega), if_pos h3]
theorem bad_sum {bs : List Int} (h1 : 1 ≤ head bs) (h2 : head bs ≤ 20000) (h3 : 8 + head bs ≤ bs.length) (h4 : sumOf 0 (inner bs) ≠ told bs) : bad bs = 4 := by
  unfold bad
  rw [if_neg (by omega), if_neg (by omega), if_neg (by omega), if_pos h4]
theorem bad_none {bs : List Int} (h1 : 1 ≤ head bs) (h2 : head bs ≤ 20000) (h3 : 8 + head bs ≤ bs.length) (h4 : sumOf 0 (inner bs) = told bs) : bad bs = 0 := by
  unfold bad
  rw [if_neg (by omega), if_neg (by omega), if_neg (by omega), if_neg (by simpa using h4)]
theorem body_none {bs : List Int} (h : bad bs ≠ 0) : body bs = [] := if_neg h
theorem many_none {bs : List Int} (h : bad bs ≠ 0) : many bs = 0 := if_neg h
theorem bad_le (bs : List Int) : bad bs ≤ 4 := by
  unfold bad
  split
  · omega
  · split
    · omega
    · split
      · omega
      · split <;> omega
theorem body_bytes {bs : List Int} (h : Bytes bs) : Bytes (body bs) := by
  unfold body
  split
  · exact inner_bytes h
  · exact bytes_nil
/- What a frame, and bytes behind it, begin with. -/
theorem head_frm {zs : List Int} (h : zs.length ≤ 20000) (ys : List Int) : head (frm zs ++ ys) = zs.length := by
  unfold head frm
  rw [List.append_assoc, List.append_assoc, Pack.got_front _ (put_length _ _), num_put]
  exact Nat.mod_eq_of_lt (by omega)
theorem told_frm (zs ys : List Int) : told (frm zs ++ ys) = sumOf 0 zs := by
  unfold told frm
  rw [List.append_assoc, List.append_assoc, Pack.left_front _ (put_length _ _), Pack.got_front _ (put_length _ _), num_put]
  exact Nat.mod_eq_of_lt (sumOf_lt 0 zs)
theorem drop_frm (zs ys : List Int) : (frm zs ++ ys).drop 8 = zs ++ ys := by
  unfold frm
  have : (put zs.length 4 ++ put (sumOf 0 zs) 4).length = 8 := by rw [List.length_append, put_length, put_length]
  rw [List.append_assoc (put zs.length 4 ++ put (sumOf 0 zs) 4), ← this, List.drop_left]
theorem inner_frm {zs : List Int} (h : zs.length ≤ 20000) (ys : List Int) : inner (frm zs ++ ys) = zs := by
  unfold inner
  rw [head_frm h, drop_frm, List.take_left]
theorem bad_frm {zs : List Int} (h0 : 1 ≤ zs.length) (h : zs.length ≤ 20000) (ys : List Int) : bad (frm zs ++ ys) = 0 := by
  refine bad_none (by rw [head_frm h]; exact h0) (by rw [head_frm h]; exact h) ?_ ?_
  · rw [head_frm h, List.length_append, frm_length]; omega
  · rw [inner_frm h, told_frm]
theorem body_frm {zs : List Int} (h0 : 1 ≤ zs.length) (h : zs.length ≤ 20000) (ys : List Int) : body (frm zs ++ ys) = zs := by
  unfold body
  rw [if_pos (bad_frm h0 h ys), inner_frm h]
theorem many_frm {zs : List Int} (h0 : 1 ≤ zs.length) (h : zs.length ≤ 20000) (ys : List Int) : many (frm zs ++ ys) = zs.length + 8 := by
  unfold many
  rw [if_pos (bad_frm h0 h ys), head_frm h]; omega
/- No beginning of a frame is one. -/
theorem bad_cut {zs : List Int} (h0 : 1 ≤ zs.length) (h : zs.length ≤ 20000) (k : Nat) (hk : k < zs.length + 8) : bad ((frm zs).take k) = 3 := by
  have hl : ((frm zs).take k).length = k := by rw [List.length_take, frm_length]; omega
  by_cases h8 : k < 8
  · exact bad_short (by omega)
  · have e : head ((frm zs).take k) = zs.length := by
      unfold head
      rw [got_take (by omega) (by rw [frm_length]; omega)]
      have := head_frm h []
      rw [List.append_nil] at this
      exact this
    exact bad_trunc (by omega) (by omega) (by omega) (by omega)
/- A frame with other bytes in the body's place. -/
theorem bad_other {zs ys : List Int} (h0 : 1 ≤ zs.length) (h : zs.length ≤ 20000) (hl : ys.length = zs.length) (hs : sumOf 0 ys ≠ sumOf 0 zs) : bad (put zs.length 4 ++ put (sumOf 0 zs) 4 ++ ys) = 4 := by
  have e8 : (put zs.length 4 ++ put (sumOf 0 zs) 4).length = 8 := by rw [List.length_append, put_length, put_length]
  have e1 : head (put zs.length 4 ++ put (sumOf 0 zs) 4 ++ ys) = zs.length := by
    unfold head
    rw [List.append_assoc, Pack.got_front _ (put_length _ _), num_put]
    exact Nat.mod_eq_of_lt (by omega)
  have e2 : told (put zs.length 4 ++ put (sumOf 0 zs) 4 ++ ys) = sumOf 0 zs := by
    unfold told
    rw [List.append_assoc, Pack.left_front _ (put_length _ _), Pack.got_front _ (put_length _ _), num_put]
    exact Nat.mod_eq_of_lt (sumOf_lt 0 zs)
  have e3 : inner (put zs.length 4 ++ put (sumOf 0 zs) 4 ++ ys) = ys := by
    unfold inner
    have e4 : (put zs.length 4 ++ put (sumOf 0 zs) 4 ++ ys).drop 8 = ys := by rw [← e8, List.drop_left]
    rw [e1, e4, ← hl, List.take_length]
  refine bad_sum (by omega) (by omega) ?_ ?_
  · rw [e1, List.length_append, e8]; omega
  · rw [e2, e3]; exact hs
end Go.Proofs.YtkppliljlcihmaaGreatDoor.Frame
