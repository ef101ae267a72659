/- Contracts of disk's Delete and Rename. -/
import Derived.Test.YtiaaadeenbjciaaDiskCreate
namespace Go.Proofs.Ytiaaadeenbjciaa.Disk
open Go.Proofs.Ytiaaadeenbjciaa.Mem
open Go.ChangeShapes Go.WideShapes Go.ChangeAt Go.RowKit
set_option linter.unusedVariables false
def delete (S : St) (n : Nm) : Int × St :=
  if S.down then (15, S) else if (look n S.files).isNone then (5, S) else effect S fun T => { T with files := del n T.files }
/- The file of one name gets another; what had that is gone. -/
def moved (n m : Nm) (l : List (Nm × File)) : List (Nm × File) := match look n l with | some f => ins m f (del m (del n l)) | none => l
def rename (S : St) (n m : Nm) : Int × St :=
  if S.down then (15, S) else if (look n S.files).isNone then (5, S) else effect S fun T => { T with files := moved n m T.files }
section
variable {α : Type}
theorem mem_del {n : Nm} {l : List (Nm × α)} {x : Nm × α} : x ∈ del n l ↔ x ∈ l ∧ x.1 ≠ n := by
  unfold del
  rw [List.mem_filter]; simp
end
section
variable {w w' : World} {p mb : Nat} {S : St} {cr : Option Addr} {es : List (Nm × Ent)} {D : DataW Nat} {F : Nat → Prop} {n m : Nm}
theorem tells_del (h : Tells D es) (ha : Apart es) (ht : Maps.Tidy D) : Tells (D.del (.string n)) (del n es) := by
  refine ⟨fun x => ?_, fun x e hx z => ?_, ?_⟩
  · by_cases hx : x = n
    · subst hx
      rw [Maps.has_del_same, look_del_same]; rfl
    · rw [Maps.has_del_other (by simpa using hx), look_del_other hx, h.has]
  · by_cases hx2 : x = n
    · subst hx2
      rw [look_del_same] at hx; cases hx
    · rw [look_del_other hx2] at hx
      rw [Maps.atKey_del_other (by simpa using hx2)]
      exact h.key _ _ hx z
  · have h1 := Maps.size_del (k := .string n) ht
    rw [h.has, h.size] at h1
    rcases hl : look n es with _ | e
    · rw [hl] at h1
      rw [del_none hl]
      simpa using h1
    · rw [hl] at h1
      have h2 := length_del ha hl
      simp at h1
      omega
theorem tells_over (h : Tells D es) (ha : Apart es) (ht : Maps.Tidy D) (e : Ent) : Tells (D.put (.string n) (.held e.fb)) (ins n e (del n es)) := by
  have ha2 := apart_del ha n
  have hn : look n (del n es) = none := look_del_same
  refine ⟨fun x => ?_, fun x e2 hx z => ?_, ?_⟩
  · by_cases hx : x = n
    · subst hx
      rw [Maps.has_put_same (k := .string x) ht.isMap trivial, look_ins_same ha2 hn]; rfl
    · rw [Maps.has_put_other (by simpa using hx), look_ins_other ha2 hn hx, look_del_other hx, h.has]
  · by_cases hx2 : x = n
    · subst hx2
      rw [look_ins_same ha2 hn] at hx
      injection hx with hx
      subst hx
      exact Maps.atKey_put_same (k := .string x) ht.isMap trivial _ _
    · rw [look_ins_other ha2 hn hx2, look_del_other hx2] at hx
      rw [Maps.atKey_put_other (by simpa using hx2)]
      exact h.key _ _ hx z
  · rw [Maps.size_put ht, h.has, length_ins, h.size]
    rcases hl : look n es with _ | e2
    · rw [del_none hl]; rfl
    · have := length_del ha hl
      simp
      omega
theorem sep_del (h : Sep es) (n : Nm) : Sep (del n es) := h.filter _
theorem good_del (h : Good S) (n : Nm) : Good { S with files := del n S.files } := ⟨apart_del h.apart n, fun x hx => h.synced x (mem_del.1 hx).1, h.plan⟩
theorem foot_del : ∀ k, foot p mb cr (del n es) k → foot p mb cr es k := by
  rintro k (h1 | h1 | h1 | ⟨x, hx, h1⟩)
  · exact .inl h1
  · exact .inr (.inl h1)
  · exact .inr (.inr (.inl h1))
  · exact .inr (.inr (.inr ⟨x, (mem_del.1 hx).1, h1⟩))
/- The map is written, and nothing else. -/
theorem At.remap {es' : List (Nm × Ent)} {D' : DataW Nat} {fs : List (Nm × File)} (h : At w p S mb cr es D) (hb : But (fun k => k = mb) w w') (hm : w'.ownsMap Try.prog 9 ptrElem mb es'.length D') (ht : Tells D' es') (hf : mapv Ent.file es' = fs) (hE : ∀ x ∈ es', EntAt w x.2) (hs : Sep es') (hg : Good { S with files := fs }) :
    At w' p { S with files := fs } mb cr es' D' := by
  have hno : ∀ {g : Nat} {t : TypeId} {cs : Array Value}, Blk w g t cs → ¬ g = mb := fun {g t cs} hg e => map_blk_ne h.map hg e.symm
  refine ⟨h.blk.but hb (hno h.blk), hm, ht, fun hd => (h.plan hd).but hb ?_, fun a ha => Nat.lt_of_lt_of_le (h.crlt a ha) hb.size, hf, ?_, hs, hg⟩
  · intro a ha
    have hpl := h.plan hd
    rcases hS : S.plan with _ | ⟨l, k⟩
    · rw [hS] at hpl
      have : cr = none := hpl
      rw [this] at ha; cases ha
    · rw [hS] at hpl
      obtain ⟨b, hb2, hB⟩ := hpl
      rw [hb2] at ha
      injection ha with ha
      subst ha
      exact hno hB
  · intro x hx
    exact (hE x hx).but hb (hno (hE x hx).1) (fun k hk e => map_own_ne h.map (hE x hx).2 (e ▸ hk))
theorem but_turned {b : Nat} (h : w.mapTurned w' b) : But (fun k => k = b) w w' := (But.of_grown h.grown).mono (fun i _ e => by injection e)
theorem at_deleted (h : At w p S mb cr es D) {e : Ent} (hl : look n es = some e) (hm : w'.ownsMap Try.prog 9 ptrElem mb es.length (D.del (.string n))) (ht : w.mapTurned w' mb) :
    At w' p { S with files := del n S.files } mb cr (del n es) (D.del (.string n)) := by
  refine h.remap (but_turned ht) ?_ (tells_del h.tells h.apart (h.map.tidy law)) (by rw [mapv_del, h.files]) (fun x hx => h.ents x (mem_del.1 hx).1) (sep_del h.sep n) (good_del h.good n)
  have := ownsMap_tight hm
  rw [(tells_del h.tells h.apart (h.map.tidy law)).size] at this
  exact this
theorem at_moved (h : At w p S mb cr es D) {e : Ent} (hE : EntAt w e) (hsy : e.synced ≤ e.bytes.length ∧ Bytes e.bytes) (hsep : ∀ x ∈ es, Two e x.2) (hm : w'.ownsMap Try.prog 9 ptrElem mb (es.length + 1) (D.put (.string m) (.held e.fb))) (hg : w.grownBy w' (some mb)) :
    At w' p { S with files := ins m e.file (del m S.files) } mb cr (ins m e (del m es)) (D.put (.string m) (.held e.fb)) ∧ But (fun k => k = mb) w w' := by
  have hb : But (fun k => k = mb) w w' := (But.of_grown hg).mono (fun i _ e => by injection e)
  have htl := tells_over (n := m) h.tells h.apart (h.map.tidy law) e
  refine ⟨h.remap hb ?_ htl (by rw [mapv_ins, mapv_del, h.files]) ?_ ?_ ?_, hb⟩
  · have := ownsMap_tight hm
    rw [htl.size] at this
    exact this
  · intro x hx
    rcases mem_ins.1 hx with rfl | hx
    · exact hE
    · exact h.ents x (mem_del.1 hx).1
  · exact ((ins_perm _ _ _).pairwise_iff (fun {x y} h => h.symm)).2 (List.pairwise_cons.2 ⟨fun y hy => hsep y (mem_del.1 hy).1, sep_del h.sep m⟩)
  · refine ⟨apart_ins (apart_del h.good.apart m) look_del_same, fun x hx => ?_, h.good.plan⟩
    rcases mem_ins.1 hx with rfl | hx
    · exact hsy
    · exact h.good.synced x (mem_del.1 hx).1
end
end Go.Proofs.Ytiaaadeenbjciaa.Disk
