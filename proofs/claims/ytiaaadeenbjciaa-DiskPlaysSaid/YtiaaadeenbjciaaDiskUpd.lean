/- One file is written, one is made: what the disk in memory is then. -/
import Derived.Test.YtiaaadeenbjciaaDiskEffect
namespace Go.Proofs.Ytiaaadeenbjciaa.Disk
open Go.Proofs.Ytiaaadeenbjciaa.Mem
open Go.ChangeShapes Go.WideShapes Go.ChangeAt Go.RowKit
set_option linter.unusedVariables false
theorem upd_const {α : Type} {l : List (Nm × α)} {n : Nm} {a : α} {h : α → α} (ha : Apart l) (hl : look n l = some a) : upd n h l = upd n (fun _ => h a) l := by
  unfold upd
  refine List.map_congr_left fun x hx => ?_
  by_cases e : x.1 = n
  · have : look n l = some x.2 := look_of_mem ha (by rw [← e]; exact hx)
    rw [hl] at this
    injection this with this
    rw [if_pos e, if_pos e, this]
  · rw [if_neg e, if_neg e]
section
variable {w w' : World} {p mb : Nat} {S : St} {cr : Option Addr} {es : List (Nm × Ent)} {D : DataW Nat} {n : Nm} {e e' : Ent}
theorem sep_upd (ha : Apart es) (hs : Sep es) (hE : ∀ x ∈ es, EntAt w x.2) (hl : look n es = some e) (hfb : e'.fb = e.fb) (hv : ∀ k, e'.v.ownBlock = some k → e.v.ownBlock = some k ∨ w.heap.size ≤ k) : Sep (upd n (fun _ => e') es) := by
  refine List.pairwise_map.2 ((List.Pairwise.and ha hs).imp_of_mem fun {x y} hx hy hxy => ?_)
  obtain ⟨hne, htwo⟩ := hxy
  have hx2 : x.1 = n → x.2 = e := fun h => by
    have := look_of_mem (n := n) (a := x.2) ha (by rw [← h]; exact hx)
    rw [hl] at this; injection this with this; exact this.symm
  have hy2 : y.1 = n → y.2 = e := fun h => by
    have := look_of_mem (n := n) (a := y.2) ha (by rw [← h]; exact hy)
    rw [hl] at this; injection this with this; exact this.symm
  by_cases h1 : x.1 = n
  · have h2 : y.1 ≠ n := fun h => hne (h1.trans h.symm)
    rw [if_pos h1, if_neg h2]
    have hx3 := hx2 h1
    rw [hx3] at htwo
    refine ⟨by rw [hfb]; exact htwo.1, fun k hk => ?_⟩
    rcases hv k hk with h3 | h3
    · exact htwo.2 k h3
    · intro hk2
      have := ((hE y hy).2.lt k hk2).2
      omega
  · rw [if_neg h1]
    by_cases h2 : y.1 = n
    · rw [if_pos h2]
      have hy3 := hy2 h2
      rw [hy3] at htwo
      refine ⟨by rw [hfb]; exact htwo.1, fun k hk hk2 => ?_⟩
      rcases hv k hk2 with h3 | h3
      · exact htwo.2 k hk h3
      · have := ((hE x hx).2.lt k hk).2
        omega
    · rw [if_neg h2]
      exact htwo
theorem tells_upd (h : Tells D es) (hl : look n es = some e) (hfb : e'.fb = e.fb) : Tells D (upd n (fun _ => e') es) := by
  refine ⟨fun x => ?_, fun x e2 hx z => ?_, by rw [length_upd]; exact h.size⟩
  · rw [h.has, look_upd]
    split
    · rw [Option.isSome_map]
    · rfl
  · rw [look_upd] at hx
    split at hx
    · next ex =>
      subst ex
      rw [hl] at hx
      injection hx with hx
      subst hx
      rw [hfb]
      exact h.key _ _ hl z
    · exact h.key _ _ hx z
theorem At.upd_ {T : Nat → Prop} (h : At w p S mb cr es D) (hl : Disk.look n es = some e) (hb : But T w w') (hT : ∀ k, k < w.heap.size → T k → k = e.fb ∨ e.v.ownBlock = some k) (he : EntAt w' e') (hfb : e'.fb = e.fb)
    (hv : ∀ k, e'.v.ownBlock = some k → e.v.ownBlock = some k ∨ w.heap.size ≤ k) (hsy : e'.synced ≤ e'.bytes.length) (hby : Bytes e'.bytes) : At w' p { S with files := Disk.upd n (fun _ => e'.file) S.files } mb cr (Disk.upd n (fun _ => e') es) D := by
  have hE := h.ents _ (look_mem hl)
  have hno : ∀ {g : Nat} {t : TypeId} {cs : Array Value}, Blk w g t cs → t ≠ 70 → t ≠ 5 → ¬ T g := fun {g t cs} hg h1 h2 ht => by
    rcases hT _ hg.lt ht with h3 | h3
    · exact hg.ne_ hE.1 h1 h3
    · exact own_blk_ne hE.2 hg h2.symm h3
  refine ⟨h.blk.but hb (hno h.blk (by decide) (by decide)), ?_, tells_upd h.tells hl hfb, fun hd => (h.plan hd).but hb ?_, fun a ha => Nat.lt_of_lt_of_le (h.crlt a ha) hb.size, ?_, ents_upd h.sep h.ents hl hb hT he, sep_upd h.apart h.sep h.ents hl hfb hv, ?_⟩
  · rw [length_upd]
    refine ownsMap_but h.map hb (fun ht => ?_)
    rcases hT _ h.map.lt ht with h3 | h3
    · exact map_blk_ne h.map hE.1 h3
    · exact map_own_ne h.map hE.2 h3
  · intro a ha
    have hpl := h.plan hd
    rcases hS : S.plan with _ | ⟨l, k⟩
    · rw [hS] at hpl
      have : cr = none := hpl
      rw [this] at ha; cases ha
    · rw [hS] at hpl
      obtain ⟨b, hb2, hB⟩ := hpl
      rw [hb2] at ha
      injection ha with ha
      subst ha
      exact hno hB (by decide) (by decide)
  · show mapv Ent.file (Disk.upd n (fun _ => e') es) = Disk.upd n (fun _ => e'.file) S.files
    rw [← h.files]
    exact mapv_upd (fun a _ => rfl)
  · refine ⟨apart_upd h.good.apart n (fun _ => e'.file), fun x hx => ?_, h.good.plan⟩
    obtain ⟨y, hy, rfl⟩ := List.mem_map.1 hx
    split
    · exact ⟨hsy, hby⟩
    · exact h.good.synced y hy
theorem foot_upd (hl : look n es = some e) (hfb : e'.fb = e.fb) (hv : ∀ k, e'.v.ownBlock = some k → e.v.ownBlock = some k ∨ w.heap.size ≤ k) : ∀ k, foot p mb cr (upd n (fun _ => e') es) k → foot p mb cr es k ∨ w.heap.size ≤ k := by
  rintro k (h1 | h1 | h1 | ⟨x, hx, h1⟩)
  · exact .inl (.inl h1)
  · exact .inl (.inr (.inl h1))
  · exact .inl (.inr (.inr (.inl h1)))
  · obtain ⟨y, hy, rfl⟩ := List.mem_map.1 hx
    by_cases e1 : y.1 = n
    · rw [if_pos e1] at h1
      rcases h1 with h1 | h1
      · exact .inl (.inr (.inr (.inr ⟨_, look_mem hl, .inl (h1.trans hfb)⟩)))
      · rcases hv k h1 with h2 | h2
        · exact .inl (.inr (.inr (.inr ⟨_, look_mem hl, .inr h2⟩)))
        · exact .inr h2
    · rw [if_neg e1] at h1
      exact .inl (.inr (.inr (.inr ⟨y, hy, h1⟩)))
theorem foot_trunc {keep : Int} : ∀ k, foot p mb cr (mapv (truncE keep) es) k → foot p mb cr es k := by
  rintro k (h1 | h1 | h1 | ⟨x, hx, h1⟩)
  · exact .inl h1
  · exact .inr (.inl h1)
  · exact .inr (.inr (.inl h1))
  · obtain ⟨y, hy, rfl⟩ := List.mem_map.1 hx
    refine .inr (.inr (.inr ⟨y, hy, ?_⟩))
    rcases h1 with h1 | h1
    · exact .inl h1
    · exact .inr ((cutV_own _ _).symm.trans h1)
/- A crash, told of the whole. -/
theorem has_crash {F : Nat → Prop} {kp : Int} (hF : ∀ k, foot p mb cr es k → F k) (hlt : ∀ k, F k → k < w.heap.size) (hA : At w' p (crash kp S) mb cr (mapv (truncE kp) es) D) (hb : But (foot p mb cr es) w w') :
    Has w' p (crash kp S) (grow F w w') ∧ But F w w' :=
  have hb2 := hb.mono (T := F) (fun i _ e => hF i e)
  ⟨hA.hasGrow hb2 hlt (fun k hk => .inl (hF k (foot_trunc k hk))), hb2⟩
/- A file is made. -/
theorem tells_put (h : Tells D es) (ha : Apart es) (hn : look n es = none) (ht : Maps.Tidy D) (e : Ent) : Tells (D.put (.string n) (.held e.fb)) (ins n e es) := by
  refine ⟨fun x => ?_, fun x e2 hx z => ?_, ?_⟩
  · by_cases hx : x = n
    · subst hx
      rw [Maps.has_put_same (k := .string x) ht.isMap trivial, look_ins_same ha hn]; rfl
    · rw [Maps.has_put_other (by simpa using hx), look_ins_other ha hn hx, h.has]
  · by_cases hx2 : x = n
    · subst hx2
      rw [look_ins_same ha hn] at hx
      injection hx with hx
      subst hx
      exact Maps.atKey_put_same (k := .string x) ht.isMap trivial _ _
    · rw [look_ins_other ha hn hx2] at hx
      rw [Maps.atKey_put_other (by simpa using hx2)]
      exact h.key _ _ hx z
  · rw [Maps.size_put ht, h.has, hn, length_ins, h.size]; rfl
end
end Go.Proofs.Ytiaaadeenbjciaa.Disk
