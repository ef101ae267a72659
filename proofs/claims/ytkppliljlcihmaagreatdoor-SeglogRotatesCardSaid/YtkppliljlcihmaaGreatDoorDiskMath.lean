/- The disk of the document, as plain data: files by names, of which the first bytes are synced; what each call makes of it. -/
import Derived.Test.YtkppliljlcihmaaGreatDoorGA
namespace Go.Proofs.YtkppliljlcihmaaGreatDoor.Disk
open Go.Proofs.YtkppliljlcihmaaGreatDoor.Mem Go.RowKit
set_option linter.unusedVariables false

abbrev Nm := List UInt8
/- Lists by names. -/
section
variable {α β : Type}
def look (n : Nm) : List (Nm × α) → Option α
  | [] => none
  | x :: r => if x.1 = n then some x.2 else look n r
def upd (n : Nm) (h : α → α) (l : List (Nm × α)) : List (Nm × α) := l.map fun x => if x.1 = n then (x.1, h x.2) else x
def del (n : Nm) (l : List (Nm × α)) : List (Nm × α) := l.filter fun x => decide (x.1 ≠ n)
def ins (n : Nm) (a : α) : List (Nm × α) → List (Nm × α)
  | [] => [(n, a)]
  | x :: r => if x.1 < n then x :: ins n a r else (n, a) :: x :: r
def mapv (f : α → β) (l : List (Nm × α)) : List (Nm × β) := l.map fun x => (x.1, f x.2)
def Apart (l : List (Nm × α)) : Prop := l.Pairwise fun x y => x.1 ≠ y.1
theorem ins_perm (n : Nm) (a : α) : ∀ l : List (Nm × α), (ins n a l).Perm ((n, a) :: l)
  | [] => List.Perm.refl _
  | x :: r => by
    unfold ins
    split
    · exact ((ins_perm n a r).cons x).trans (List.Perm.swap _ _ _)
    · exact List.Perm.refl _
theorem mem_ins {n : Nm} {a : α} {l : List (Nm × α)} {x : Nm × α} : x ∈ ins n a l ↔ x = (n, a) ∨ x ∈ l := by
  rw [(ins_perm n a l).mem_iff, List.mem_cons]
theorem length_ins (n : Nm) (a : α) (l : List (Nm × α)) : (ins n a l).length = l.length + 1 := by
  rw [(ins_perm n a l).length_eq]; rfl
theorem look_mem {n : Nm} {a : α} : ∀ {l : List (Nm × α)}, look n l = some a → (n, a) ∈ l
  | [], h => by cases h
  | x :: r, h => by
    unfold look at h
    split at h
    · next e => injection h with h; subst h; subst e; exact List.mem_cons_self
    · exact List.mem_cons_of_mem _ (look_mem h)
theorem look_none {n : Nm} : ∀ {l : List (Nm × α)}, look n l = none ↔ ∀ x ∈ l, x.1 ≠ n
  | [] => by simp [look]
  | x :: r => by
    unfold look
    split
    · next e => simp [e]
    · next e => rw [look_none (l := r)]; simp [e]
theorem look_of_mem {n : Nm} {a : α} : ∀ {l : List (Nm × α)}, Apart l → (n, a) ∈ l → look n l = some a
  | [], _, h => by cases h
  | x :: r, hp, h => by
    obtain ⟨h1, h2⟩ := List.pairwise_cons.1 hp
    unfold look
    rcases List.mem_cons.1 h with e | h'
    · subst e; simp
    · rw [if_neg (h1 _ h'), look_of_mem h2 h']
theorem apart_ins {n : Nm} {a : α} {l : List (Nm × α)} (h : Apart l) (hn : look n l = none) : Apart (ins n a l) := by
  refine ((ins_perm n a l).pairwise_iff (fun {x y} hne => Ne.symm hne)).2 (List.pairwise_cons.2 ⟨fun x hx => ?_, h⟩)
  exact (look_none.1 hn x hx).symm
theorem apart_del {l : List (Nm × α)} (h : Apart l) (n : Nm) : Apart (del n l) := h.filter _
theorem apart_upd {l : List (Nm × α)} (h : Apart l) (n : Nm) (f : α → α) : Apart (upd n f l) := by
  refine List.pairwise_map.2 (h.imp fun {x y} hne => ?_)
  split <;> split <;> exact hne
theorem apart_mapv {l : List (Nm × α)} (h : Apart l) (f : α → β) : Apart (mapv f l) := List.pairwise_map.2 h
theorem apart_of_mapv {l : List (Nm × α)} {f : α → β} (h : Apart (mapv f l)) : Apart l := by
  unfold Apart mapv at h
  rw [List.pairwise_map] at h
  exact h
theorem look_mapv (f : α → β) (n : Nm) : ∀ l : List (Nm × α), look n (mapv f l) = (look n l).map f
  | [] => rfl
  | x :: r => by
    show (if x.1 = n then some (f x.2) else look n (mapv f r)) = Option.map f (if x.1 = n then some x.2 else look n r)
    split
    · rfl
    · exact look_mapv f n r
theorem mapv_ins (f : α → β) (n : Nm) (a : α) : ∀ l : List (Nm × α), mapv f (ins n a l) = ins n (f a) (mapv f l)
  | [] => rfl
  | x :: r => by
    show mapv f (if x.1 < n then x :: ins n a r else (n, a) :: x :: r) = (if x.1 < n then (x.1, f x.2) :: ins n (f a) (mapv f r) else (n, f a) :: (x.1, f x.2) :: mapv f r)
    split
    · show (x.1, f x.2) :: mapv f (ins n a r) = _
      rw [mapv_ins f n a r]
    · rfl
theorem mapv_del (f : α → β) (n : Nm) : ∀ l : List (Nm × α), mapv f (del n l) = del n (mapv f l)
  | [] => rfl
  | x :: r => by
    have ih := mapv_del f n r
    unfold del mapv at ih ⊢
    rw [List.map_cons, List.filter_cons, List.filter_cons]
    by_cases e : x.1 = n
    · simp [e] at ih ⊢; exact ih
    · simp [e] at ih ⊢; exact ih
theorem mapv_upd {f : α → β} {h : α → α} {h' : β → β} {n : Nm} {l : List (Nm × α)} (hc : ∀ a, (n, a) ∈ l → f (h a) = h' (f a)) : mapv f (upd n h l) = upd n h' (mapv f l) := by
  unfold mapv upd
  rw [List.map_map, List.map_map]
  refine List.map_congr_left fun x hx => ?_
  by_cases e : x.1 = n
  · have := hc x.2 (by rw [← e]; exact hx)
    simp [Function.comp, e, this]
  · simp [Function.comp, e]
theorem mapv_mapv {γ : Type} (f : α → β) (g : β → γ) (l : List (Nm × α)) : mapv g (mapv f l) = mapv (fun a => g (f a)) l := by
  unfold mapv; rw [List.map_map]; rfl
theorem look_del_same {n : Nm} {l : List (Nm × α)} : look n (del n l) = none := by
  rw [look_none]
  intro x hx
  simpa using (List.mem_filter.1 hx).2
theorem look_del_other {n m : Nm} (hne : m ≠ n) : ∀ l : List (Nm × α), look m (del n l) = look m l
  | [] => rfl
  | x :: r => by
    have ih := look_del_other hne r
    unfold del at ih ⊢
    rw [List.filter_cons]
    by_cases e : x.1 = n
    · rw [if_neg (by simp [e]), ih]
      show _ = if x.1 = m then _ else _
      rw [if_neg (by rw [e]; exact hne.symm)]
    · rw [if_pos (by simp [e])]
      show (if x.1 = m then _ else look m _) = if x.1 = m then _ else _
      rw [ih]
theorem look_ins_same {n : Nm} {a : α} {l : List (Nm × α)} (h : Apart l) (hn : look n l = none) : look n (ins n a l) = some a :=
  look_of_mem (apart_ins h hn) (mem_ins.2 (.inl rfl))
theorem look_ins_other {n m : Nm} {a : α} {l : List (Nm × α)} (h : Apart l) (hn : look n l = none) (hne : m ≠ n) : look m (ins n a l) = look m l := by
  have h2 := apart_ins (a := a) h hn
  cases e : look m l with
  | none =>
    rw [look_none] at e ⊢
    intro x hx
    rcases mem_ins.1 hx with rfl | hx
    · exact hne.symm
    · exact e x hx
  | some b => exact look_of_mem h2 (mem_ins.2 (.inr (look_mem e)))
theorem look_upd (n m : Nm) (f : α → α) : ∀ l : List (Nm × α), look m (upd n f l) = if m = n then (look m l).map f else look m l
  | [] => by simp [look, upd]
  | x :: r => by
    have ih := look_upd n m f r
    unfold upd at ih ⊢
    rw [List.map_cons]
    unfold look
    by_cases e : x.1 = n
    · by_cases e2 : x.1 = m
      · simp [← e2, e]
      · rw [if_pos e]
        simp only [if_neg e2, ih]
    · by_cases e2 : x.1 = m
      · rw [if_neg e]
        simp only [if_pos e2]
        rw [if_neg (by rw [← e2]; exact e)]
      · rw [if_neg e]
        simp only [if_neg e2, ih]
theorem length_del {n : Nm} {a : α} : ∀ {l : List (Nm × α)}, Apart l → look n l = some a → (del n l).length + 1 = l.length
  | [], _, h => by cases h
  | x :: r, hp, h => by
    obtain ⟨h1, h2⟩ := List.pairwise_cons.1 hp
    unfold look at h
    unfold del
    rw [List.filter_cons]
    by_cases e : x.1 = n
    · rw [if_neg (by simp [e])]
      have : r.filter (fun x => decide (x.1 ≠ n)) = r := List.filter_eq_self.2 (fun y hy => by simpa using fun e2 => h1 y hy (e.trans e2.symm))
      rw [this]; rfl
    · rw [if_neg e] at h
      rw [if_pos (by simp [e])]
      have := length_del h2 h
      unfold del at this
      simp only [List.length_cons]
      omega
theorem del_none {n : Nm} {l : List (Nm × α)} (h : look n l = none) : del n l = l := List.filter_eq_self.2 (fun y hy => by simpa using look_none.1 h y hy)
theorem length_upd (n : Nm) (f : α → α) (l : List (Nm × α)) : (upd n f l).length = l.length := List.length_map _
theorem length_mapv (f : α → β) (l : List (Nm × α)) : (mapv f l).length = l.length := List.length_map _
def total (f : α → Nat) (l : List (Nm × α)) : Nat := (l.map fun x => f x.2).sum
theorem total_ins (f : α → Nat) (n : Nm) (a : α) (l : List (Nm × α)) : total f (ins n a l) = f a + total f l := by
  unfold total
  rw [((ins_perm n a l).map _).sum_nat]
  rfl
theorem total_le_of {f : α → Nat} {n : Nm} {a : α} {l : List (Nm × α)} (h : (n, a) ∈ l) : f a ≤ total f l := by
  unfold total
  induction l with
  | nil => cases h
  | cons x r ih =>
    rw [List.map_cons, List.sum_cons]
    rcases List.mem_cons.1 h with e | h'
    · subst e; exact Nat.le_add_right _ _
    · have := ih h'; omega
theorem total_del_le (f : α → Nat) (n : Nm) : ∀ l : List (Nm × α), total f (del n l) ≤ total f l
  | [] => Nat.le_refl _
  | x :: r => by
    have ih := total_del_le f n r
    unfold total del at ih ⊢
    rw [List.filter_cons]
    split
    · simp only [List.map_cons, List.sum_cons]; omega
    · simp only [List.map_cons, List.sum_cons]; omega
theorem total_del {f : α → Nat} {n : Nm} {a : α} : ∀ {l : List (Nm × α)}, Apart l → look n l = some a → total f (del n l) + f a = total f l
  | [], _, h => by cases h
  | x :: r, hp, h => by
    obtain ⟨h1, h2⟩ := List.pairwise_cons.1 hp
    unfold look at h
    unfold del total
    rw [List.filter_cons]
    by_cases e : x.1 = n
    · rw [if_neg (by simp [e])]
      rw [if_pos e] at h
      injection h with h
      have : r.filter (fun x => decide (x.1 ≠ n)) = r := List.filter_eq_self.2 (fun y hy => by simpa using fun e2 => h1 y hy (e.trans e2.symm))
      rw [this, List.map_cons, List.sum_cons, h]; omega
    · rw [if_neg e] at h
      rw [if_pos (by simp [e])]
      have := total_del (f := f) h2 h
      unfold del total at this
      simp only [List.map_cons, List.sum_cons]
      omega
theorem total_upd {f : α → Nat} {h : α → α} {n : Nm} {a : α} : ∀ {l : List (Nm × α)}, Apart l → look n l = some a → total f (upd n h l) + f a = total f l + f (h a)
  | [], _, h => by cases h
  | x :: r, hp, hl => by
    obtain ⟨h1, h2⟩ := List.pairwise_cons.1 hp
    unfold look at hl
    unfold upd total
    rw [List.map_cons, List.map_cons, List.map_cons, List.sum_cons, List.sum_cons]
    by_cases e : x.1 = n
    · rw [if_pos e] at hl
      injection hl with hl
      subst hl
      have : r.map (fun x => if x.1 = n then (x.1, h x.2) else x) = r := by
        conv => rhs; rw [← List.map_id r]
        refine List.map_congr_left fun y hy => ?_
        rw [if_neg (fun e2 => h1 y hy (e.trans e2.symm))]; rfl
      rw [this, if_pos e]
      show f (h x.2) + _ + _ = _
      omega
    · rw [if_neg e] at hl
      have := total_upd (f := f) (h := h) h2 hl
      unfold upd total at this
      rw [if_neg e]
      omega
theorem total_mapv (f : β → Nat) (g : α → β) (l : List (Nm × α)) : total f (mapv g l) = total (fun a => f (g a)) l := by
  unfold total mapv; rw [List.map_map]; rfl
theorem total_mono {f g : α → Nat} (h : ∀ a, f a ≤ g a) : ∀ l : List (Nm × α), total f l ≤ total g l
  | [] => Nat.le_refl _
  | x :: r => by
    have ih := total_mono h r
    unfold total at ih ⊢
    have := h x.2
    simp only [List.map_cons, List.sum_cons]; omega
end

/- A file: its bytes, how many are synced; a disk. -/
structure File where
  bytes : List Int
  synced : Nat
structure St where
  cap : Int
  files : List (Nm × File)
  effects : Int
  plan : Option (Int × Int)
  down : Bool
def used (S : St) : Nat := total (fun f : File => f.bytes.length) S.files
def cutTo (keep : Int) (f : File) : Nat := f.synced + (min keep ((f.bytes.length : Int) - f.synced)).toNat
def trunc (keep : Int) (f : File) : File := ⟨f.bytes.take (cutTo keep f), cutTo keep f⟩
def crash (keep : Int) (S : St) : St := { S with files := mapv (trunc keep) S.files, plan := none, down := true }
/- An effect may be done: what comes of it if it is, or that the disk goes down. -/
def effect (S : St) (k : St → St) : Int × St :=
  match S.plan with
  | none => (0, k { S with effects := wrap64 (S.effects + 1) })
  | some (l, kp) => if l = 0 then (15, crash kp S) else (0, k { S with effects := wrap64 (S.effects + 1), plan := some (l - 1, kp) })
def create (S : St) (n : Nm) : Int × St :=
  if S.down then (15, S) else if (look n S.files).isSome then (6, S) else if 1000 ≤ S.files.length then (12, S) else effect S fun T => { T with files := ins n ⟨[], 0⟩ T.files }
def append (S : St) (n : Nm) (b : List Int) : Int × St :=
  if S.down then (15, S) else if (look n S.files).isNone then (5, S) else if S.cap < ((used S + b.length : Nat) : Int) then (12, S) else effect S fun T => { T with files := upd n (fun f => ⟨f.bytes ++ b, f.synced⟩) T.files }
def sync (S : St) (n : Nm) : Int × St :=
  if S.down then (15, S) else if (look n S.files).isNone then (5, S) else effect S fun T => { T with files := upd n (fun f => ⟨f.bytes, f.bytes.length⟩) T.files }
def planned (S : St) (l k : Int) : St := { S with plan := some (max l 0, max k 0) }
def opened (S : St) : St := { S with plan := none, down := false }
/- What is well made: no name twice, and no more synced than there is. -/
structure Good (S : St) : Prop where
  apart : Apart S.files
  synced : ∀ x ∈ S.files, x.2.synced ≤ x.2.bytes.length ∧ Bytes x.2.bytes
  plan : ∀ l k, S.plan = some (l, k) → 0 ≤ l ∧ l ≤ 9223372036854775807 ∧ 0 ≤ k ∧ k ≤ 9223372036854775807
/- Effects, and what else is done. -/
def stepS (S : St) : St := { S with effects := wrap64 (S.effects + 1), plan := S.plan.map fun x => (x.1 - 1, x.2) }
/- Is the plan for now? -/
def now (S : St) : Option Int := match S.plan with | some (l, k) => if l = 0 then some k else none | none => none
theorem effect_done {S : St} (h : now S = none) (k : St → St) : effect S k = (0, k (stepS S)) := by
  obtain ⟨c, f, e, pl, d⟩ := S
  rcases pl with _ | ⟨l, kp⟩
  · rfl
  · unfold now at h
    simp only at h
    have hl : l ≠ 0 := by
      intro e0
      rw [if_pos e0] at h
      cases h
    unfold effect
    simp only [if_neg hl]
    rfl
theorem effect_crash {S : St} {kp : Int} (h : now S = some kp) (k : St → St) : effect S k = (15, crash kp S) := by
  obtain ⟨c, f, e, pl, d⟩ := S
  rcases pl with _ | ⟨l, kp'⟩
  · cases h
  · unfold now at h
    simp only at h
    split at h
    · next hl =>
      injection h with h
      subst h
      unfold effect
      simp only [if_pos hl]
    · cases h
theorem used_crash (kp : Int) (S : St) : used (crash kp S) ≤ used S := by
  show total _ (mapv (trunc kp) S.files) ≤ _
  rw [total_mapv]
  exact total_mono (fun a => by show (a.bytes.take _).length ≤ a.bytes.length; rw [List.length_take]; omega) _
theorem effect_rec {S : St} {k : St → St} {P : Int × St → Prop} (h1 : ∀ kp, now S = some kp → P (15, crash kp S)) (h2 : now S = none → P (0, k (stepS S))) : P (effect S k) := by
  rcases hn : now S with _ | kp
  · rw [effect_done hn]; exact h2 hn
  · rw [effect_crash hn]; exact h1 kp hn
def delete (S : St) (n : Nm) : Int × St :=
  if S.down then (15, S) else if (look n S.files).isNone then (5, S) else effect S fun T => { T with files := del n T.files }
/- The file of one name gets another; what had that is gone. -/
def moved (n m : Nm) (l : List (Nm × File)) : List (Nm × File) := match look n l with | some f => ins m f (del m (del n l)) | none => l
def rename (S : St) (n m : Nm) : Int × St :=
  if S.down then (15, S) else if (look n S.files).isNone then (5, S) else effect S fun T => { T with files := moved n m T.files }
section
variable {α : Type}
theorem mem_del {n : Nm} {l : List (Nm × α)} {x : Nm × α} : x ∈ del n l ↔ x ∈ l ∧ x.1 ≠ n := by
  unfold del
  rw [List.mem_filter]; simp
end
def cut (S : St) (n : Nm) (k : Int) : Int × St :=
  if S.down then (15, S) else match look n S.files with
    | none => (5, S)
    | some f => if k < 0 ∨ (f.bytes.length : Int) < k then (1, S) else effect S fun T => { T with files := upd n (fun f => ⟨f.bytes.take k.toNat, min f.synced k.toNat⟩) T.files }
theorem cutTo_le {keep : Int} {f : File} (h : f.synced ≤ f.bytes.length) : cutTo keep f ≤ f.bytes.length := by unfold cutTo; omega
theorem good_crash {S : St} (h : Good S) (keep : Int) : Good (crash keep S) := by
  refine ⟨apart_mapv h.apart _, fun x hx => ?_, fun l k e => by cases e⟩
  obtain ⟨y, hy, rfl⟩ := List.mem_map.1 hx
  have h1 := h.synced y hy
  have h2 := cutTo_le (keep := keep) h1.1
  exact ⟨by show cutTo keep y.2 ≤ (y.2.bytes.take _).length; rw [List.length_take]; omega, bytes_take h1.2 _⟩
end Go.Proofs.YtkppliljlcihmaaGreatDoor.Disk
