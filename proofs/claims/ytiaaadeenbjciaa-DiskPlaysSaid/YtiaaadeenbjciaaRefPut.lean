/- Contracts of the document's put and drop. -/
import Derived.Test.YtiaaadeenbjciaaRefSet
namespace Go.Proofs.Ytiaaadeenbjciaa.Disk
open Go.Proofs.Ytiaaadeenbjciaa.Mem
open Go.ChangeShapes Go.WideShapes Go.ChangeAt Go.RowKit
open Go.Proofs (encStr)
set_option linter.unusedVariables false
theorem file_info : (Try.prog.info? 46).map (fun i => (i.zero, i.size, i.bytes)) = some (some (.agg #[.string ⟨#[]⟩, .slice none 0 0, .int .i64 0]), 3, 48) := by kernel_rfl
theorem rcells_one {w : World} : ∀ {rs : List (Nm × REnt)}, (∀ x ∈ rs, REntAt w x.2) → ∀ u ∈ rcells rs, u.oneCell' = true
  | [], _, u, hu => by cases hu
  | x :: r, h, u, hu => by
    unfold rcells at hu
    rcases List.mem_cons.1 hu with rfl | hu
    · rfl
    · rcases List.mem_cons.1 hu with rfl | hu
      · rcases (h x List.mem_cons_self).2 with ⟨h1, _⟩ | ⟨g, cap, cur, h1, _⟩ <;> rw [h1] <;> rfl
      · rcases List.mem_cons.1 hu with rfl | hu
        · rfl
        · exact rcells_one (fun y hy => h y (List.mem_cons_of_mem _ hy)) u hu
theorem rcells_take (rs : List (Nm × REnt)) (k : Nat) : rcells (rs.take k) = (rcells rs).take (k * 3) := by
  induction rs generalizing k with
  | nil => simp [rcells]
  | cons x r ih =>
    cases k with
    | zero => simp [rcells]
    | succ k =>
      have e : (k + 1) * 3 = k * 3 + 1 + 1 + 1 := by omega
      simp only [List.take_succ_cons, rcells, e, ih k]
theorem rcells_drop (rs : List (Nm × REnt)) (k : Nat) : rcells (rs.drop k) = (rcells rs).drop (k * 3) := by
  induction rs generalizing k with
  | nil => simp [rcells]
  | cons x r ih =>
    cases k with
    | zero => simp [rcells]
    | succ k =>
      have e : (k + 1) * 3 = k * 3 + 1 + 1 + 1 := by omega
      simp only [List.drop_succ_cons, rcells, e, ih k]
section
variable {w w' : World} {rp : Nat} {S : St} {lv : Value} {rs : List (Nm × REnt)} {pl : Bool} {lf kp : Int}
/- A front, and a back, of the slice of files show their cells. -/
theorem sees_front {g n cap k : Nat} (h : w.ownsRow 0 46 3 (.slice (some ⟨g, 0, none⟩) n cap) n (rcells rs)) (hk : k ≤ n) (c : Nat) : Sees w 3 (.slice (some ⟨g, 0, none⟩) k c) k (rcells (rs.take k)) := by
  have hl := h.1
  refine .inr ⟨_, _, rfl, by rw [rcells_take, List.length_take]; omega, fun j u hu => ?_⟩
  rw [rcells_take] at hu
  have hj : j < k * 3 := by
    have := get_lt hu
    rw [List.length_take] at this; omega
  rw [List.getElem?_take_of_lt hj] at hu
  refine ⟨(h.lt g rfl).2, ?_⟩
  rw [add_none, Nat.zero_add, h.cellAt j (by omega)]
  exact hu
theorem sees_back {g n cap k off : Nat} (h : w.ownsRow 0 46 3 (.slice (some ⟨g, 0, none⟩) n cap) n (rcells rs)) (hk : k ≤ n) (ho : k < n → off = k * 3) (c : Nat) : Sees w 3 (.slice (some ⟨g, off, none⟩) (n - k) c) (n - k) (rcells (rs.drop k)) := by
  have hl := h.1
  refine .inr ⟨_, _, rfl, by rw [rcells_drop, List.length_drop]; omega, fun j u hu => ?_⟩
  rw [rcells_drop] at hu
  have hj := get_lt hu
  rw [List.length_drop] at hj
  rw [List.getElem?_drop] at hu
  refine ⟨(h.lt g rfl).2, ?_⟩
  rw [add_none, ho (by omega), h.cellAt (k * 3 + j) (by omega)]
  exact hu
/- The row of files is another one now. -/
theorem RAt.relist {lv' : Value} {rs' : List (Nm × REnt)} (h : RAt w rp S lv rs pl lf kp) (hb : But (fun i => i = rp) w w') (hblk : Blk w' rp 29 #[.int .i64 S.cap, lv', .int .i64 S.effects, .bool pl, .int .i64 lf, .int .i64 kp, .bool S.down])
    (hrow : w'.ownsRow 0 46 3 lv' rs'.length (rcells rs')) (hE : ∀ x ∈ rs', REntAt w' x.2) (hr : Rise (mapv REnt.file rs')) (hg : Good { S with files := mapv REnt.file rs' }) : RAt w' rp { S with files := mapv REnt.file rs' } lv' rs' pl lf kp :=
  ⟨hblk, hrow, hE, rfl, h.plan, hr, hg⟩
end
end Go.Proofs.Ytiaaadeenbjciaa.Disk
