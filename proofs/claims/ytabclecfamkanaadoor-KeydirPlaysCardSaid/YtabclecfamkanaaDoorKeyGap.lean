/- A gap in a table is closed: what lies behind it moves back, in the program's way and in the document's, which are one. -/
import Derived.Test.YtabclecfamkanaaDoorKeyMath
namespace Go.Proofs.YtabclecfamkanaaDoor.Key
open Go.Proofs.YtabclecfamkanaaDoor.Mem Go.Proofs.YtabclecfamkanaaDoor.Fnv
set_option linter.unusedVariables false

def pl (n a x : Nat) : Nat := (a + x) % n
def back (n : Nat) (e : Ent) (j : Nat) : Nat := (j + n - hm n e.key) % n
theorem pl_lt {n a x : Nat} (h : 0 < n) : pl n a x < n := Nat.mod_lt _ h
theorem pl_add (n a x : Nat) : pl n a (x + n) = pl n a x := by unfold pl; rw [← Nat.add_assoc, Nat.add_mod_right]
theorem pl_ne {n a x y : Nat} (h1 : x < y) (h2 : y < x + n) : pl n a x ≠ pl n a y := by
  intro h
  have := mod_one (n := n) h (by omega) (by omega)
  omega
theorem pl_next (n a x : Nat) : (pl n a x + 1) % n = pl n a (x + 1) := by
  unfold pl
  rw [← Nat.add_assoc]
  exact Nat.mod_add_mod _ _ _
theorem back_lt {n : Nat} (h : 0 < n) (e : Ent) (j : Nat) : back n e j < n := Nat.mod_lt _ h
theorem hm_lt {n : Nat} (h : 0 < n) (s : ByteArray) : hm n s < n := Nat.mod_lt _ h
theorem home_back {n j : Nat} {e : Ent} (hj : j < n) : (hm n e.key + back n e j) % n = j := by
  have h1 := hm_lt (show 0 < n by omega) e.key
  unfold back
  rw [Nat.add_mod_mod, show hm n e.key + (j + n - hm n e.key) = j + n by omega, Nat.add_mod_right, Nat.mod_eq_of_lt hj]
theorem back_path {n a o t : Nat} {e : Ent} (hn : 0 < n) (ht : t ≤ back n e (pl n a o)) : pl n a (o + n - t) = (hm n e.key + (back n e (pl n a o) - t)) % n := by
  have h1 := home_back (e := e) (pl_lt (a := a) (x := o) hn)
  have hb := back_lt hn e (pl n a o)
  generalize back n e (pl n a o) = B at *
  unfold pl at h1 ⊢
  -- both, t more, are one
  have h2 : (a + (o + n - t) + t) % n = (hm n e.key + (B - t) + t) % n := by
    rw [show a + (o + n - t) + t = a + o + n by omega, show hm n e.key + (B - t) + t = hm n e.key + B by omega, Nat.add_mod_right, h1]
  have h3 : ((a + (o + n - t)) % n + t) % n = ((hm n e.key + (B - t)) % n + t) % n := by rw [Nat.mod_add_mod, Nat.mod_add_mod]; exact h2
  have h4 := Nat.mod_lt (a + (o + n - t)) hn
  have h5 := Nat.mod_lt (hm n e.key + (B - t)) hn
  generalize (a + (o + n - t)) % n = x at *
  generalize (hm n e.key + (B - t)) % n = y at *
  rcases Nat.le_total x y with h | h
  · have := mod_one h3 (by omega) (by omega); omega
  · have := mod_one h3.symm (by omega) (by omega); omega
theorem some_pl {n a j : Nat} (hj : j < n) : ∃ o, o < n ∧ pl n a o = j := some_dist (h := a) hj
theorem find_back {T : Tab} {a o : Nat} {e : Ent} (hl : look T (pl T.length a o) = some e) (h : ∀ t, 1 ≤ t → t ≤ back T.length e (pl T.length a o) → stops T e.key (pl T.length a (o + T.length - t)) = false) : find T e.key = pl T.length a o := by
  have hj := look_lt hl
  have hn : 0 < T.length := by omega
  have h1 := home_back (e := e) hj
  rw [← h1]
  refine find_eq (back_lt hn _ _) (by rw [h1, stops_key hl]; simp) (fun x hx => ?_)
  have h2 := h (back T.length e (pl T.length a o) - x) (by omega) (by omega)
  rw [back_path (e := e) hn (by omega)] at h2
  rw [show back T.length e (pl T.length a o) - (back T.length e (pl T.length a o) - x) = x by omega] at h2
  exact h2
theorem wf_back {T : Tab} (hw : WF T) {a o : Nat} {e : Ent} (hl : look T (pl T.length a o) = some e) : ∀ t, 1 ≤ t → t ≤ back T.length e (pl T.length a o) → stops T e.key (pl T.length a (o + T.length - t)) = false := by
  intro t h1 h2
  have hj := look_lt hl
  have hn : 0 < T.length := by omega
  have hd := wf_dist hw hl
  have hf := hw _ e hl
  have hb := home_back (e := e) hj
  have hbl := back_lt hn e (pl T.length a o)
  have e1 : dist T e.key = back T.length e (pl T.length a o) := by
    have h3 : (hm T.length e.key + dist T e.key) % T.length = (hm T.length e.key + back T.length e (pl T.length a o)) % T.length := by
      rw [hb]; exact hf
    rcases Nat.le_total (dist T e.key) (back T.length e (pl T.length a o)) with h | h
    · have := mod_one h3 (by omega) (by omega); omega
    · have := mod_one h3.symm (by omega) (by omega); omega
  rw [back_path hn h2]
  exact dist_before (by omega)
/- There is a gap at a + g; what lies from a + c on, up to a free place, may have to move into it. -/
structure Gap (T : Tab) (a g c Q : Nat) : Prop where
  gc : g < c
  cq : c ≤ Q
  qn : Q < T.length
  hg : look T (pl T.length a g) = none
  hq : look T (pl T.length a Q) = none
  path : ∀ o e, o < T.length → look T (pl T.length a o) = some e → ∀ t, 1 ≤ t → t ≤ back T.length e (pl T.length a o) → stops T e.key (pl T.length a (o + T.length - t)) = false ∨ (pl T.length a (o + T.length - t) = pl T.length a g ∧ c ≤ o)
def moved (T : Tab) (n a g c : Nat) (e : Ent) : Tab := (T.set (pl n a c) none).set (pl n a g) (some e)
theorem Gap.one {T : Tab} {a g c Q o1 o2 : Nat} {e f : Ent} (G : Gap T a g c Q) (h1 : o1 < T.length) (h2 : o2 < T.length) (hl1 : look T (pl T.length a o1) = some e) (hl2 : look T (pl T.length a o2) = some f) (hk : e.key = f.key) : o1 = o2 := by
  have hn : 0 < T.length := by omega
  have key : ∀ (x y : Nat) (u v : Ent), x < T.length → y < T.length → look T (pl T.length a x) = some u → look T (pl T.length a y) = some v → u.key = v.key → ¬ back T.length u (pl T.length a x) < back T.length v (pl T.length a y) := by
    intro x y u v hx hy hu hv huv hlt
    have hp := back_path (a := a) (o := y) (t := back T.length v (pl T.length a y) - back T.length u (pl T.length a x)) (e := v) hn (by omega)
    rw [show back T.length v (pl T.length a y) - (back T.length v (pl T.length a y) - back T.length u (pl T.length a x)) = back T.length u (pl T.length a x) by omega, ← huv, home_back (e := u) (pl_lt hn)] at hp
    rcases G.path y v hy hv (back T.length v (pl T.length a y) - back T.length u (pl T.length a x)) (by omega) (Nat.sub_le _ _) with h | ⟨h, _⟩
    · rw [hp, stops_key hu, huv] at h
      simp at h
    · rw [hp] at h
      rw [h, G.hg] at hu
      cases hu
  have e1 := key o1 o2 e f h1 h2 hl1 hl2 hk
  have e2 := key o2 o1 f e h2 h1 hl2 hl1 hk.symm
  have e3 : back T.length e (pl T.length a o1) = back T.length f (pl T.length a o2) := by omega
  have e4 := home_back (e := e) (pl_lt (a := a) (x := o1) hn)
  have e5 := home_back (e := f) (pl_lt (a := a) (x := o2) hn)
  rw [← hk, ← e3, e4] at e5
  rcases Nat.lt_trichotomy o1 o2 with h | h | h
  · exact absurd e5 (pl_ne h (by omega))
  · exact h
  · exact absurd e5.symm (pl_ne h (by omega))
/- What lies there stays. -/
theorem Gap.stay {T : Tab} {a g c Q : Nat} {e : Ent} (G : Gap T a g c Q) (he : look T (pl T.length a c) = some e) (hb : ¬ c - g ≤ back T.length e (pl T.length a c)) : Gap T a g (c + 1) Q := by
  obtain ⟨hgc, hcq, hqn, hg, hq, hp⟩ := G
  have hne : c ≠ Q := by rintro rfl; rw [hq] at he; cases he
  refine ⟨by omega, by omega, hqn, hg, hq, fun o f ho hf t h1 h2 => ?_⟩
  rcases hp o f ho hf t h1 h2 with h | ⟨h, h3⟩
  · exact .inl h
  · by_cases hoc : o = c
    · subst hoc
      rw [he] at hf
      injection hf with hf
      subst hf
      have hbl := back_lt (n := T.length) (by omega) e (pl T.length a o)
      refine absurd h.symm ?_
      rw [← pl_add T.length a g]
      exact pl_ne (by omega) (by omega)
    · exact .inr ⟨h, by omega⟩
theorem Gap.stay_lay {T : Tab} {a g c Q : Nat} {e : Ent} (G : Gap T a g c Q) (he : look T (pl T.length a c) = some e) (hb : ¬ c - g ≤ back T.length e (pl T.length a c)) : lay (T.set (pl T.length a c) none) e = T := by
  have hj := look_lt he
  have hn : 0 < T.length := by omega
  have h1 := home_back (e := e) hj
  have hl : (T.set (pl T.length a c) none).length = T.length := by simp
  have hf : find (T.set (pl T.length a c) none) e.key = pl T.length a c := by
    have := find_eq (T := T.set (pl T.length a c) none) (s := e.key) (d := back T.length e (pl T.length a c)) (by rw [hl]; exact back_lt hn _ _) ?_ ?_
    · rw [this, hl, h1]
    · rw [hl, h1]; exact stops_free (look_set_same hj)
    · intro x hx
      rw [hl]
      have hbl := back_lt hn e (pl T.length a c)
      have hp := back_path (a := a) (o := c) (t := back T.length e (pl T.length a c) - x) (e := e) hn (by omega)
      rw [show back T.length e (pl T.length a c) - (back T.length e (pl T.length a c) - x) = x by omega] at hp
      rw [← hp]
      have hcq := G.cq
      have hqn := G.qn
      have hgc := G.gc
      rw [stops_set_ne]
      · rcases G.path c e (by omega) he (back T.length e (pl T.length a c) - x) (by omega) (Nat.sub_le _ _) with h | ⟨h, _⟩
        · exact h
        · refine absurd h.symm ?_
          rw [← pl_add T.length a g]
          exact pl_ne (by omega) (by omega)
      · have h9 := pl_ne (n := T.length) (a := a) (x := c + T.length - (back T.length e (pl T.length a c) - x)) (y := c + T.length) (by omega) (by omega)
        rw [pl_add] at h9
        exact h9.symm
  rw [lay, hf, List.set_set]
  apply List.ext_getElem? 
  intro i
  rw [List.getElem?_set]
  split
  · rename_i hi
    subst hi
    simp only [look, List.getD, List.getElem?_eq_getElem hj, Option.getD_some] at he
    rw [List.getElem?_eq_getElem hj, he]
  · rfl
/- It moves into the gap, and the gap is where it was. -/
theorem Gap.move_lay {T : Tab} {a g c Q : Nat} {e : Ent} (G : Gap T a g c Q) (he : look T (pl T.length a c) = some e) (hb : c - g ≤ back T.length e (pl T.length a c)) : lay (T.set (pl T.length a c) none) e = moved T T.length a g c e := by
  have hj := look_lt he
  have hn : 0 < T.length := by omega
  have hl : (T.set (pl T.length a c) none).length = T.length := by simp
  have hcq := G.cq
  have hqn := G.qn
  have hgc := G.gc
  have hbl := back_lt hn e (pl T.length a c)
  have hcg : pl T.length a g ≠ pl T.length a c := pl_ne (by omega) (by omega)
  have hf : find (T.set (pl T.length a c) none) e.key = pl T.length a g := by
    have hp := back_path (a := a) (o := c) (t := c - g) (e := e) hn hb
    rw [show c + T.length - (c - g) = g + T.length by omega, pl_add] at hp
    have := find_eq (T := T.set (pl T.length a c) none) (s := e.key) (d := back T.length e (pl T.length a c) - (c - g)) (by rw [hl]; omega) ?_ ?_
    · rw [this, hl, hp]
    · rw [hl, ← hp, stops_set_ne hcg.symm]; exact stops_free G.hg
    · intro x hx
      rw [hl]
      have hp2 := back_path (a := a) (o := c) (t := back T.length e (pl T.length a c) - x) (e := e) hn (by omega)
      rw [show back T.length e (pl T.length a c) - (back T.length e (pl T.length a c) - x) = x by omega] at hp2
      rw [← hp2]
      rw [stops_set_ne]
      · rcases G.path c e (by omega) he (back T.length e (pl T.length a c) - x) (by omega) (Nat.sub_le _ _) with h | ⟨h, _⟩
        · exact h
        · refine absurd h ?_
          rw [← pl_add (x := g)]
          exact pl_ne (by omega) (by omega)
      · have h9 := pl_ne (n := T.length) (a := a) (x := c + T.length - (back T.length e (pl T.length a c) - x)) (y := c + T.length) (by omega) (by omega)
        rw [pl_add] at h9
        exact h9.symm
  rw [lay, hf]
  rfl
theorem moved_length (T : Tab) (n a g c : Nat) (e : Ent) : (moved T n a g c e).length = T.length := by simp [moved]
theorem look_moved {T : Tab} {a g c j : Nat} {e : Ent} (hn : 0 < T.length) : look (moved T T.length a g c e) j = if pl T.length a g = j then some e else if pl T.length a c = j then none else look T j := by
  unfold moved
  rw [look_set (by rw [List.length_set]; exact pl_lt hn), look_set (pl_lt hn)]
theorem Gap.move {T : Tab} {a g c Q : Nat} {e : Ent} (G : Gap T a g c Q) (he : look T (pl T.length a c) = some e) (hb : c - g ≤ back T.length e (pl T.length a c)) : Gap (moved T T.length a g c e) a c (c + 1) Q := by
  have hj := look_lt he
  have hn : 0 < T.length := by omega
  have hcq := G.cq
  have hqn := G.qn
  have hgc := G.gc
  have hbl := back_lt hn e (pl T.length a c)
  have hcg : pl T.length a g ≠ pl T.length a c := pl_ne (by omega) (by omega)
  have hne : c ≠ Q := by rintro rfl; have := G.hq; rw [this] at he; cases he
  have hgq : pl T.length a g ≠ pl T.length a Q := pl_ne (by omega) (by omega)
  have hcQ : pl T.length a c ≠ pl T.length a Q := pl_ne (by omega) (by omega)
  refine ⟨by omega, by omega, by rw [moved_length]; exact hqn, ?_, ?_, ?_⟩
  · rw [moved_length, look_moved hn, if_neg hcg, if_pos rfl]
  · rw [moved_length, look_moved hn, if_neg hgq, if_neg hcQ]; exact G.hq
  · intro o f ho hf t h1 h2
    rw [moved_length] at ho hf h2 ⊢
    have same : ∀ s j, j ≠ pl T.length a g → j ≠ pl T.length a c → stops (moved T T.length a g c e) s j = stops T s j := by
      intro s j h3 h4
      simp only [stops]
      rw [look_moved hn, if_neg (Ne.symm h3), if_neg (Ne.symm h4)]
    rw [look_moved hn] at hf
    by_cases hog : pl T.length a g = pl T.length a o
    · -- what was moved
      rw [if_pos hog] at hf
      injection hf with hf
      subst hf
      have e1 : g = o := by
        rcases Nat.lt_trichotomy g o with h | h | h
        · exact absurd hog (pl_ne h (by omega))
        · exact h
        · exact absurd hog.symm (pl_ne h (by omega))
      subst e1
      have e2 : back T.length e (pl T.length a g) = back T.length e (pl T.length a c) - (c - g) := by
        have hp := back_path (a := a) (o := c) (t := c - g) (e := e) hn hb
        rw [show c + T.length - (c - g) = g + T.length by omega, pl_add] at hp
        have hh := home_back (e := e) (pl_lt (a := a) (x := g) hn)
        have hlt := back_lt hn e (pl T.length a g)
        have h3 := hh.trans hp
        rcases Nat.le_total (back T.length e (pl T.length a g)) (back T.length e (pl T.length a c) - (c - g)) with h | h
        · have := mod_one h3 (by omega) (by omega); omega
        · have := mod_one h3.symm (by omega) (by omega); omega
      rw [e2] at h2
      have hnp : pl T.length a (g + T.length - t) ≠ pl T.length a g := by
        rw [← pl_add (x := g)]
        exact pl_ne (by omega) (by omega)
      refine .inl ?_
      have h3 := G.path c e (by omega) he (t + (c - g)) (by omega) (by omega)
      rw [show c + T.length - (t + (c - g)) = g + T.length - t by omega] at h3
      rcases h3 with h3 | ⟨h3, _⟩
      · rw [same _ _ hnp (fun h4 => by rw [h4, stops_key he] at h3; simp at h3)]
        exact h3
      · exact absurd h3 hnp
    · rw [if_neg hog] at hf
      by_cases hoc : pl T.length a c = pl T.length a o
      · rw [if_pos hoc] at hf; cases hf
      · rw [if_neg hoc] at hf
        have hoc' : o ≠ c := fun h => hoc (by rw [h])
        by_cases hp : pl T.length a (o + T.length - t) = pl T.length a g
        · refine .inl ?_
          rw [hp]
          rw [stops_key (e := e) (by rw [look_moved hn, if_pos rfl])]
          simp only [decide_eq_false_iff_not]
          intro hk
          exact hoc' (G.one ho (by omega) hf he hk.symm)
        · have h3 := (G.path o f ho hf t h1 h2).resolve_right (fun h => hp h.1)
          by_cases hpc : pl T.length a (o + T.length - t) = pl T.length a c
          · refine .inr ⟨hpc, ?_⟩
            apply Classical.byContradiction
            intro h4
            have hbo := back_lt hn f (pl T.length a o)
            have e3 : o + T.length - t = c := by
              rcases Nat.lt_trichotomy (o + T.length - t) c with h | h | h
              · exact absurd hpc (pl_ne h (by omega))
              · exact h
              · exact absurd hpc.symm (pl_ne h (by omega))
            rcases G.path o f ho hf (o + T.length - Q) (by omega) (by omega) with h5 | ⟨_, h5⟩
            · rw [show o + T.length - (o + T.length - Q) = Q by omega, stops_free G.hq] at h5
              cases h5
            · omega
          · exact .inl (by rw [same _ _ hp hpc]; exact h3)
/- No more is to be moved. -/
theorem Gap.shut {T : Tab} {a g c Q : Nat} (G : Gap T a g c Q) (hc : look T (pl T.length a c) = none) : WF T := by
  intro j e he
  have hj := look_lt he
  have hn : 0 < T.length := by omega
  have hcq := G.cq
  have hqn := G.qn
  have hgc := G.gc
  obtain ⟨o, ho, rfl⟩ := some_pl (a := a) hj
  refine find_back he (fun t h1 h2 => ?_)
  rcases G.path o e ho he t h1 h2 with h | ⟨h, h3⟩
  · exact h
  · exfalso
    have hbo := back_lt hn e (pl T.length a o)
    have hoc : o ≠ c := by rintro rfl; rw [hc] at he; cases he
    have e3 : t = o - g := by
      rw [← pl_add (x := g)] at h
      rcases Nat.lt_trichotomy (o + T.length - t) (g + T.length) with h4 | h4 | h4
      · exact absurd h (pl_ne h4 (by omega))
      · omega
      · exact absurd h.symm (pl_ne h4 (by omega))
    rcases G.path o e ho he (o - c) (by omega) (by omega) with h5 | ⟨h5, _⟩
    · rw [show o + T.length - (o - c) = c + T.length by omega, pl_add, stops_free hc] at h5
      cases h5
    · rw [show o + T.length - (o - c) = c + T.length by omega, pl_add] at h5
      exact pl_ne (n := T.length) (a := a) hgc (by omega) h5.symm
/- The gap's beginning. -/
theorem Gap.start {T : Tab} (hw : WF T) (hf : free T) {a : Nat} {e : Ent} (he : look T a = some e) : ∃ Q, Gap (T.set a none) a 0 1 Q := by
  have hj := look_lt he
  have hn : 0 < T.length := by omega
  obtain ⟨q, hq, hlq⟩ := hf
  obtain ⟨Q, hQ, rfl⟩ := some_pl (a := a) hq
  have h0 : pl T.length a 0 = a := by simp [pl, Nat.mod_eq_of_lt hj]
  have hQ0 : Q ≠ 0 := by rintro rfl; rw [h0, he] at hlq; cases hlq
  have hne : a ≠ pl T.length a Q := by
    have := pl_ne (n := T.length) (a := a) (x := 0) (y := Q) (by omega) (by omega)
    rwa [h0] at this
  refine ⟨Q, by omega, by omega, by simpa using hQ, ?_, ?_, ?_⟩
  · rw [List.length_set, h0, look_set_same hj]
  · rw [List.length_set, look_set_ne hne]; exact hlq
  · intro o f ho hf t h1 h2
    rw [List.length_set] at ho hf h2 ⊢
    have hao : a ≠ pl T.length a o := by
      intro h
      rw [← h, look_set_same hj] at hf
      cases hf
    rw [look_set_ne hao] at hf
    by_cases hp : pl T.length a (o + T.length - t) = pl T.length a 0
    · refine .inr ⟨hp, ?_⟩
      rcases Nat.eq_zero_or_pos o with h | h
      · rw [h, h0] at hao; exact absurd rfl hao
      · exact h
    · refine .inl ?_
      rw [h0] at hp
      rw [stops_set_ne (Ne.symm hp)]
      exact wf_back hw hf t h1 h2
end Go.Proofs.YtabclecfamkanaaDoor.Key
