/- One file of the document's disk is renewed. -/
import Derived.Test.YtiaaadeenbjciaaRefFind
import Derived.Test.YtiaaadeenbjciaaDiskDown
import Derived.Test.YtiaaadeenbjciaaDiskEffect
namespace Go.Proofs.Ytiaaadeenbjciaa.Disk
open Go.Proofs.Ytiaaadeenbjciaa.Mem
open Go.ChangeShapes Go.WideShapes Go.ChangeAt Go.RowKit
open Go.Proofs (encStr)
set_option linter.unusedVariables false
theorem rcells_setB : ∀ {rs : List (Nm × REnt)} {k : Nat} {x : Nm × REnt} (v : Value) (bs : List Int), rs[k]? = some x → rcells (rs.set k (x.1, ⟨v, bs, x.2.synced⟩)) = (rcells rs).set (k * 3 + 1) v
  | [], k, x, v, bs, h => by simp at h
  | y :: r, k, x, v, bs, h => by
    cases k with
    | zero => simp at h; subst h; rfl
    | succ k =>
      have ih := rcells_setB (rs := r) (k := k) (x := x) v bs (by simpa using h)
      have e : (k + 1) * 3 + 1 = k * 3 + 1 + 1 + 1 + 1 := by omega
      simp only [List.set_cons_succ, rcells, e, ih]
theorem rcells_setS : ∀ {rs : List (Nm × REnt)} {k : Nat} {x : Nm × REnt} (m : Nat), rs[k]? = some x → rcells (rs.set k (x.1, ⟨x.2.v, x.2.bytes, m⟩)) = (rcells rs).set (k * 3 + 2) (.int .i64 m)
  | [], k, x, m, h => by simp at h
  | y :: r, k, x, m, h => by
    cases k with
    | zero => simp at h; subst h; rfl
    | succ k =>
      have ih := rcells_setS (rs := r) (k := k) (x := x) m (by simpa using h)
      have e : (k + 1) * 3 + 2 = k * 3 + 2 + 1 + 1 + 1 := by omega
      simp only [List.set_cons_succ, rcells, e, ih]
theorem mapv_set {α β : Type} (f : α → β) (l : List (Nm × α)) (k : Nat) (n : Nm) (a : α) : mapv f (l.set k (n, a)) = (mapv f l).set k (n, f a) := by
  unfold mapv
  rw [List.map_set]
theorem get_lt {α : Type} {l : List α} {k : Nat} {x : α} (h : l[k]? = some x) : k < l.length := by
  rcases Nat.lt_or_ge k l.length with h8 | h8
  · exact h8
  · rw [List.getElem?_eq_none h8] at h; cases h
theorem mem_set {α : Type} {l : List α} {k : Nat} {x y : α} (h : y ∈ l.set k x) : y ∈ l ∨ y = x := List.mem_or_eq_of_mem_set h
theorem Rise.set {α : Type} : ∀ {l : List (Nm × α)} {k : Nat} {x : Nm × α} (a : α), Rise l → l[k]? = some x → Rise (l.set k (x.1, a))
  | [], k, x, a, _, h => by simp at h
  | y :: r, k, x, a, hr, h => by
    obtain ⟨h1, h2⟩ := List.pairwise_cons.1 hr
    cases k with
    | zero => simp at h; subst h; exact List.pairwise_cons.2 ⟨h1, h2⟩
    | succ k =>
      have hx : r[k]? = some x := by simpa using h
      refine List.pairwise_cons.2 ⟨fun z hz => ?_, Rise.set a h2 hx⟩
      rcases mem_set hz with hz | rfl
      · exact h1 z hz
      · exact h1 x (List.mem_of_getElem? hx)
section
variable {w w' : World} {rp : Nat} {S : St} {lv : Value} {rs : List (Nm × REnt)} {pl : Bool} {lf kp : Int}
theorem good_set (h : Good S) (hr : Rise S.files) {k : Nat} {x : Nm × File} (hk : S.files[k]? = some x) {f : File} (hf : f.synced ≤ f.bytes.length ∧ Bytes f.bytes) : Good { S with files := S.files.set k (x.1, f) } :=
  ⟨(hr.set f hk).apart, fun y hy => by
    rcases mem_set hy with hy | rfl
    · exact h.synced y hy
    · exact hf, h.plan⟩
theorem RAt.fileAt (h : RAt w rp S lv rs pl lf kp) {k : Nat} {x : Nm × REnt} (hk : rs[k]? = some x) : S.files[k]? = some (x.1, x.2.file) := by
  rw [← h.files]
  unfold mapv
  rw [List.getElem?_map, hk]; rfl
theorem RAt.renew (h : RAt w rp S lv rs pl lf kp) {k : Nat} {x : Nm × REnt} (hk : rs[k]? = some x) {y : REnt} (hy : y.synced ≤ y.bytes.length ∧ Bytes y.bytes) {g : Nat} (hg : lv.ownBlock = some g) (hb : But (fun i => i = g) w w')
    (hrow : w'.ownsRow 0 46 3 lv rs.length (rcells (rs.set k (x.1, y)))) (hyv : REntAt w' y) : RAt w' rp { S with files := S.files.set k (x.1, y.file) } lv (rs.set k (x.1, y)) pl lf kp := by
  have hgB : ∃ cs, Blk w g 46 cs := by
    rcases h.row.2 with ⟨h1, _⟩ | ⟨g', cap, cur, h1, _, h3, _⟩
    · rw [h1] at hg; cases hg
    · rw [h1] at hg
      injection hg with hg
      have hg : g' = g := hg
      subst hg
      exact ⟨cur, h3⟩
  obtain ⟨cs, hgB⟩ := hgB
  refine ⟨h.blk.but hb (fun e => h.blk.ne_ hgB (by decide) e), by rw [List.length_set]; exact hrow, fun z hz => ?_, by rw [mapv_set, h.files], h.plan, h.rise.set _ (h.fileAt hk), good_set h.good h.rise (h.fileAt hk) hy⟩
  rcases mem_set hz with hz | rfl
  · exact ownsRow_but (h.ents z hz) hb (fun i hi e => own_blk_ne (h.ents z hz) hgB (by decide) (e ▸ hi))
  · exact hyv
theorem rfoot_set {k : Nat} {x : Nm × REnt} {y : REnt} (hv : ∀ i, y.v.ownBlock = some i → rfoot rp lv rs i ∨ w.heap.size ≤ i) : ∀ i, rfoot rp lv (rs.set k (x.1, y)) i → rfoot rp lv rs i ∨ w.heap.size ≤ i := by
  rintro i (h1 | h1 | ⟨z, hz, h1⟩)
  · exact .inl (.inl h1)
  · exact .inl (.inr (.inl h1))
  · rcases mem_set hz with hz | rfl
    · exact .inl (.inr (.inr ⟨z, hz, h1⟩))
    · exact hv i h1
/- What is left of the files in the midst of a crash. -/
def mixS (kp : Int) (S : St) (k : Nat) : St := { S with files := mapv (trunc kp) (S.files.take k) ++ S.files.drop k }
theorem mix_zero (kp : Int) (S : St) : mixS kp S 0 = S := by unfold mixS; simp [mapv]
theorem mix_step {S : St} {k : Nat} {x : Nm × File} (h : S.files[k]? = some x) : (mixS kp S k).files.set k (x.1, trunc kp x.2) = (mixS kp S (k + 1)).files := by
  unfold mixS mapv
  have hk := get_lt h
  have hl : (List.map (fun x => (x.1, trunc kp x.2)) (S.files.take k)).length = k := by rw [List.length_map, List.length_take]; omega
  simp only
  rw [List.set_append_right _ _ (by omega), hl, Nat.sub_self]
  have hd : S.files.drop k = x :: S.files.drop (k + 1) := by
    rw [List.drop_eq_getElem_cons hk]
    congr 1
    rw [List.getElem?_eq_getElem hk] at h
    injection h
  rw [hd, List.set_cons_zero, List.take_add_one, h]
  simp
theorem mix_get {S : St} {k : Nat} (h : k < S.files.length) : (mixS kp S k).files[k]? = S.files[k]? := by
  unfold mixS mapv
  have hl : (List.map (fun x => (x.1, trunc kp x.2)) (S.files.take k)).length = k := by rw [List.length_map, List.length_take]; omega
  simp only
  rw [List.getElem?_append_right (by omega), hl, Nat.sub_self, List.getElem?_drop]
  rfl
theorem mix_end {S : St} : mixS kp S S.files.length = { S with files := mapv (trunc kp) S.files } := by
  unfold mixS
  simp
end
end Go.Proofs.Ytiaaadeenbjciaa.Disk
