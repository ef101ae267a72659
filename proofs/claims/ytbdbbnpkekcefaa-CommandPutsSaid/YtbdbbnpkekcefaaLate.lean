/- A region that draws its order, with a fact of the world that holds behind each of its operations but the late ones: those that wait for whatever is taken first by that fact (a statement's own store, which comes last). So loads of the very cell that the statement writes may be taken first. -/
import Derived.Test.YtbdbbnpkekcefaaOwn
import Derived.Deep.RegionHeld
namespace Go.Proofs.Ytbdbbnpkekcefaa.Late
set_option linter.unusedVariables false
section
variable {P : Program} {ops : Array Oper} {Q : Exit → Act → World → Prop} {S : World → Prop} {late : Nat → Bool}

/- Whatever comes up next, and so on to the end. -/
def Goes (P : Program) (ops : Array Oper) (Q : Exit → Act → World → Prop) (S : World → Prop) (late : Nat → Bool) : Nat → Array Bool → Act → World → Prop
  | 0, li, a, w => Region.ready .any ops li = [] ∧ Q .normal a w
  | n + 1, li, a, w => (Region.ready .any ops li = [] → Q .normal a w) ∧
      ∀ j, j ∈ Region.ready .any ops li → wpOp P ops Q j (fun b u => (late j = false → S u) ∧ Goes P ops Q S late n (li.setIfInBounds j true) b u) a w
theorem Goes.any : ∀ {n : Nat} {li : Array Bool} {a : Act} {w : World}, Goes P ops Q S late n li a w → wpAny P .any ops Q n li a w
  | 0, _, _, _, h => h
  | _ + 1, _, _, _, h => ⟨h.1, fun j hj => wpOp_mono (fun _ _ k => k.2.any) (h.2 j hj)⟩
/- Each late operation waits for number i. -/
def waits (ops : Array Oper) (late : Nat → Bool) (i : Nat) : Bool :=
  (List.range ops.size).all fun j => j == i || !late j || ((ops[j]?.map fun o => o.after.any fun e => Region.binds .any e && e.on == i).getD true)
theorem waits_spec {i j : Nat} {o : Oper} (h : waits ops late i = true) (hj : ops[j]? = some o) (hne : j ≠ i) (hl : late j = true) : ∃ e ∈ o.after, Region.binds .any e = true ∧ e.on = i := by
  have h1 := List.all_eq_true.1 h j (List.mem_range.2 (Array.getElem?_eq_some_iff.1 hj).1)
  simp only [hj, hl, Option.map_some, Option.getD_some, Bool.not_true, Bool.or_false, Bool.or_eq_true, beq_iff_eq] at h1
  obtain ⟨k, hk, h2⟩ : ∃ k, ∃ h : k < o.after.size, Region.binds .any o.after[k] = true ∧ o.after[k].on = i := by simpa using h1.resolve_left hne
  exact ⟨_, Array.getElem_mem hk, h2⟩
/- Number i, which is ready, binds nobody that is ready. -/
theorem unbound {i j : Nat} {o : Oper} {li : Array Bool} (hi : i ∈ Region.ready .any ops li) (hj : j ∈ Region.ready .any ops li) (ho : ops[j]? = some o) : ∀ e ∈ o.after, Region.binds .any e = true → e.on ≠ i := by
  intro e he hb heq
  obtain ⟨_, o', ho', hall⟩ := mem_ready.1 hj
  rw [ho] at ho'
  injection ho' with ho'
  subst ho'
  have h1 := hall e he hb
  have h0 := (mem_ready.1 hi).1
  rw [heq] at h1
  simp only [Array.getD_eq_getD_getElem?] at h0 h1
  cases hk : li[i]? with
  | none => rw [hk] at h1; cases h1
  | some b =>
    rw [hk] at h0 h1
    simp only [Option.getD_some] at h0 h1
    rw [h0] at h1; cases h1
theorem Goes.first {i : Nat} {oi : Oper} {v : Value} (hi : ops[i]? = some oi) (hs : Region.noSelect ops = true) (hw : waits ops late i = true) (hQ : ∀ c a w, Q (.panic c) (a.put oi.dst v) w → Q (.panic c) a w) (n : Nat) :
    ∀ (li : Array Bool) (a : Act) (w : World), (∀ j o, ops[j]? = some o → j ≠ i → li.getD j true = false → (∀ e ∈ o.after, Region.binds .any e = true → e.on ≠ i) → oi.apart ops o = true) →
      i ∈ Region.ready .any ops li → YieldsIf P ops S oi v a → S w → Goes P ops Q S late n (li.setIfInBounds i true) (a.put oi.dst v) w → Goes P ops Q S late (n + 1) li a w := by
  induction n with
  | zero =>
    intro li a w _ hr hy hS H
    refine ⟨fun h => absurd hr (by rw [h]; exact List.not_mem_nil), fun j hj => ?_⟩
    by_cases e : j = i
    · rw [e]; exact hy.wpOp hi hS ⟨fun _ => hS, H⟩
    · have := ready_mono hj e
      rw [H.1] at this
      cases this
  | succ n ih =>
    intro li a w hfr hr hy hS H
    refine ⟨fun h => absurd hr (by rw [h]; exact List.not_mem_nil), fun j hj => ?_⟩
    by_cases e : j = i
    · rw [e]; exact hy.wpOp hi hS ⟨fun _ => hS, H⟩
    · obtain ⟨hun, o, ho, _⟩ := mem_ready.1 hj
      have hub := unbound hr hj ho
      have hnl : late j = false := by
        cases hl : late j with
        | false => rfl
        | true =>
          obtain ⟨x, hx, hb, hx2⟩ := waits_spec hw ho e hl
          exact (hub x hx hb hx2).elim
      have k := wpOp_putIf ho (hfr j o ho e hun hub) (fun cs b => Region.noSelect_spec hs i oi cs b hi) (fun cs b => Region.noSelect_spec hs j o cs b ho) hQ hy (H.2 j (ready_mono hj e))
      refine wpOp_mono (fun b u k2 => ⟨k2.2.1, ih _ b u (fun x ox hx hne hx2 hx3 => hfr x ox hx hne ?_ hx3) (ready_mono hr (Ne.symm e)) k2.1 (k2.2.1 hnl) ?_⟩) k
      · by_cases e2 : j = x
        · exact e2 ▸ hun
        · rwa [getD_set_ne true e2] at hx2
      · rw [Array.setIfInBounds_comm _ _ e]
        exact k2.2.2
/- Number i is taken first. -/
theorem Goes.take {i : Nat} {oi : Oper} {v : Value} {n : Nat} {li : Array Bool} {a : Act} {w : World} (hi : ops[i]? = some oi) (hs : Region.noSelect ops = true) (hf : Region.free .any ops li i = true) (hr : (Region.ready .any ops li).contains i = true)
    (hw : waits ops late i = true) (hQ : ∀ c a w, Q (.panic c) (a.put oi.dst v) w → Q (.panic c) a w) (hy : YieldsIf P ops S oi v a) (hS : S w)
    (h : Goes P ops Q S late n (li.setIfInBounds i true) (a.put oi.dst v) w) : Goes P ops Q S late (n + 1) li a w :=
  Goes.first hi hs hw hQ n li a w (Region.free_spec hi hf) (by simpa using hr) hy hS h
/- What is done is done behind all that it waits for. -/
def Closed (ops : Array Oper) (li : Array Bool) : Prop := ∀ j o, ops[j]? = some o → li.getD j false = true → ∀ e ∈ o.after, Region.binds .any e = true → li.getD e.on false = true
def closed (ops : Array Oper) (li : Array Bool) : Bool :=
  (List.range ops.size).all fun j => !(li.getD j false) || ((ops[j]?.map fun o => o.after.all fun e => !(Region.binds .any e) || li.getD e.on false).getD true)
theorem closed_spec {li : Array Bool} (h : closed ops li = true) : Closed ops li := by
  intro j o hj hl e he hb
  have h1 := List.all_eq_true.1 h j (List.mem_range.2 (Array.getElem?_eq_some_iff.1 hj).1)
  simp only [hj, hl, Option.map_some, Option.getD_some, Bool.not_true, Bool.false_or] at h1
  obtain ⟨k, hk, rfl⟩ := Array.mem_iff_getElem.1 he
  have h2 : ∀ i (h : i < o.after.size), (!(Region.binds .any o.after[i]) || li.getD o.after[i].on false) = true := by simpa using h1
  have h3 := h2 k hk
  rw [hb] at h3
  simpa using h3
/- That number j waits for number i, through others, too. -/
def dep (ops : Array Oper) (i : Nat) : Nat → Nat → Bool
  | 0, _ => false
  | n + 1, j => (ops[j]?.map fun o => o.after.any fun e => Region.binds .any e && (e.on == i || dep ops i n e.on)).getD false
theorem dep_spec {i : Nat} {li : Array Bool} (hc : Closed ops li) (hi : li.getD i false = false) : ∀ (n j : Nat) (o : Oper), ops[j]? = some o → dep ops i n j = true → ∃ e ∈ o.after, Region.binds .any e = true ∧ li.getD e.on false = false
  | 0, j, o, hj, h => by cases h
  | n + 1, j, o, hj, h => by
    unfold dep at h
    rw [hj] at h
    simp only [Option.map_some, Option.getD_some] at h
    obtain ⟨k, hk, h1, h2⟩ : ∃ k, ∃ h : k < o.after.size, Region.binds .any o.after[k] = true ∧ (o.after[k].on = i ∨ dep ops i n o.after[k].on = true) := by simpa using h
    refine ⟨_, Array.getElem_mem hk, h1, ?_⟩
    rcases h2 with h2 | h2
    · rw [h2]; exact hi
    · cases hq : ops[o.after[k].on]? with
      | none =>
        cases n with
        | zero => cases h2
        | succ n => unfold dep at h2; rw [hq] at h2; cases h2
      | some o' =>
        obtain ⟨e, he, hb, h3⟩ := dep_spec hc hi n _ o' hq h2
        cases h4 : li.getD o.after[k].on false with
        | false => rfl
        | true => rw [hc _ o' hq h4 e he hb] at h3; cases h3
def waitsT (ops : Array Oper) (late : Nat → Bool) (i : Nat) : Bool := (List.range ops.size).all fun j => j == i || !late j || dep ops i 12 j
theorem ready_done {j : Nat} {o : Oper} {li : Array Bool} (hj : j ∈ Region.ready .any ops li) (ho : ops[j]? = some o) : ∀ e ∈ o.after, Region.binds .any e = true → li.getD e.on false = true := by
  intro e he hb
  obtain ⟨_, o', ho', hall⟩ := mem_ready.1 hj
  rw [ho] at ho'
  injection ho' with ho'
  subst ho'
  exact hall e he hb
theorem closed_set {j : Nat} {li : Array Bool} (hc : Closed ops li) (hj : j ∈ Region.ready .any ops li) : Closed ops (li.setIfInBounds j true) := by
  have hup : ∀ k, li.getD k false = true → (li.setIfInBounds j true).getD k false = true := by
    intro k hk
    simp only [Array.getD_eq_getD_getElem?, Array.getElem?_setIfInBounds] at hk ⊢
    split
    · split
      · rfl
      · rename_i h1 h2
        rw [← h1, Array.getElem?_eq_none (by omega)] at hk
        cases hk
    · exact hk
  intro k o ho hk e he hb
  by_cases hkj : k = j
  · subst hkj
    exact hup _ (ready_done hj ho e he hb)
  · refine hup _ (hc k o ho ?_ e he hb)
    simp only [Array.getD_eq_getD_getElem?, Array.getElem?_setIfInBounds, if_neg (Ne.symm hkj)] at hk ⊢
    exact hk
theorem Goes.firstT {i : Nat} {oi : Oper} {v : Value} (hi : ops[i]? = some oi) (hs : Region.noSelect ops = true) (hw : waitsT ops late i = true) (hQ : ∀ c a w, Q (.panic c) (a.put oi.dst v) w → Q (.panic c) a w) (n : Nat) :
    ∀ (li : Array Bool) (a : Act) (w : World), Closed ops li → (∀ j o, ops[j]? = some o → j ≠ i → li.getD j true = false → (∀ e ∈ o.after, Region.binds .any e = true → e.on ≠ i) → oi.apart ops o = true) →
      i ∈ Region.ready .any ops li → YieldsIf P ops S oi v a → S w → Goes P ops Q S late n (li.setIfInBounds i true) (a.put oi.dst v) w → Goes P ops Q S late (n + 1) li a w := by
  induction n with
  | zero =>
    intro li a w _ _ hr hy hS H
    refine ⟨fun h => absurd hr (by rw [h]; exact List.not_mem_nil), fun j hj => ?_⟩
    by_cases e : j = i
    · rw [e]; exact hy.wpOp hi hS ⟨fun _ => hS, H⟩
    · have := ready_mono hj e
      rw [H.1] at this
      cases this
  | succ n ih =>
    intro li a w hcl hfr hr hy hS H
    refine ⟨fun h => absurd hr (by rw [h]; exact List.not_mem_nil), fun j hj => ?_⟩
    by_cases e : j = i
    · rw [e]; exact hy.wpOp hi hS ⟨fun _ => hS, H⟩
    · obtain ⟨hun, o, ho, _⟩ := mem_ready.1 hj
      have hub := unbound hr hj ho
      have hi0 : li.getD i false = false := by
        have h0 := (mem_ready.1 hr).1
        simp only [Array.getD_eq_getD_getElem?] at h0 ⊢
        cases hk : li[i]? with
        | none => rfl
        | some b => rw [hk] at h0; exact h0
      have hnl : late j = false := by
        cases hl : late j with
        | false => rfl
        | true =>
          have h1 := List.all_eq_true.1 hw j (List.mem_range.2 (Array.getElem?_eq_some_iff.1 ho).1)
          simp only [hl, Bool.not_true, Bool.or_false, Bool.or_eq_true, beq_iff_eq] at h1
          obtain ⟨x, hx, hb, hx2⟩ := dep_spec hcl hi0 _ j o ho (h1.resolve_left e)
          rw [ready_done hj ho x hx hb] at hx2
          cases hx2
      have k := wpOp_putIf ho (hfr j o ho e hun hub) (fun cs b => Region.noSelect_spec hs i oi cs b hi) (fun cs b => Region.noSelect_spec hs j o cs b ho) hQ hy (H.2 j (ready_mono hj e))
      refine wpOp_mono (fun b u k2 => ⟨k2.2.1, ih _ b u (closed_set hcl hj) (fun x ox hx hne hx2 hx3 => hfr x ox hx hne ?_ hx3) (ready_mono hr (Ne.symm e)) k2.1 (k2.2.1 hnl) ?_⟩) k
      · by_cases e2 : j = x
        · exact e2 ▸ hun
        · rwa [getD_set_ne true e2] at hx2
      · rw [Array.setIfInBounds_comm _ _ e]
        exact k2.2.2
/- Number i is taken first; the late ones wait for it, through others, too. -/
theorem Goes.takeT {i : Nat} {oi : Oper} {v : Value} {n : Nat} {li : Array Bool} {a : Act} {w : World} (hi : ops[i]? = some oi) (hs : Region.noSelect ops = true) (hf : Region.free .any ops li i = true) (hr : (Region.ready .any ops li).contains i = true)
    (hw : waitsT ops late i = true) (hc : closed ops li = true) (hQ : ∀ c a w, Q (.panic c) (a.put oi.dst v) w → Q (.panic c) a w) (hy : YieldsIf P ops S oi v a) (hS : S w)
    (h : Goes P ops Q S late n (li.setIfInBounds i true) (a.put oi.dst v) w) : Goes P ops Q S late (n + 1) li a w :=
  Goes.firstT hi hs hw hQ n li a w (closed_spec hc) (Region.free_spec hi hf) (by simpa using hr) hy hS h
/- Number i is taken first; what a program checks of it in one. -/
def okT (ops : Array Oper) (late : Nat → Bool) (li : Array Bool) (i : Nat) : Bool := Region.noSelect ops && Region.free .any ops li i && (Region.ready .any ops li).contains i && waitsT ops late i && closed ops li
theorem tk (i : Nat) (v : Value) {oi : Oper} {n : Nat} {li : Array Bool} {a : Act} {w : World} (hy : ∀ w, S w → (execOp a.eval oi).run P w = .ok (.value v) w) (hS : S w)
    (h : Goes P ops Q S late n (li.setIfInBounds i true) (a.put oi.dst v) w)
    (hi : ops[i]? = some oi := by simp only [List.getElem?_toArray, List.getElem?_cons_succ, List.getElem?_cons_zero]; rfl)
    (hc : okT ops late li i = true := by kernel_rfl) (hw : Region.wanted oi (yielded ops a.tmps) = true := by rfl)
    (hQ : ∀ c a w, Q (.panic c) (a.put oi.dst v) w → Q (.panic c) a w := by exact fun _ _ _ h => h) : Goes P ops Q S late (n + 1) li a w := by
  simp only [okT, Bool.and_eq_true] at hc
  exact Goes.takeT hi hc.1.1.1.1 hc.1.1.1.2 hc.1.1.2 hc.1.2 hc.2 hQ (.inl ⟨hw, hy⟩) hS h
theorem tn (i : Nat) {oi : Oper} {n : Nat} {li : Array Bool} {a : Act} {w : World} (hS : S w)
    (h : Goes P ops Q S late n (li.setIfInBounds i true) (a.put oi.dst undef) w)
    (hi : ops[i]? = some oi := by simp only [List.getElem?_toArray, List.getElem?_cons_succ, List.getElem?_cons_zero]; rfl)
    (hc : okT ops late li i = true := by kernel_rfl) (hw : Region.wanted oi (yielded ops a.tmps) = false := by rfl)
    (hQ : ∀ c a w, Q (.panic c) (a.put oi.dst undef) w → Q (.panic c) a w := by exact fun _ _ _ h => h) : Goes P ops Q S late (n + 1) li a w := by
  simp only [okT, Bool.and_eq_true] at hc
  exact Goes.takeT hi hc.1.1.1.1 hc.1.1.1.2 hc.1.1.2 hc.1.2 hc.2 hQ (.inr ⟨hw, rfl⟩) hS h
/- Number i alone is ready. -/
theorem Goes.one {i : Nat} {oi : Oper} {n : Nat} {li : Array Bool} {a : Act} {w : World} (hr : Region.ready .any ops li = [i]) (hi : ops[i]? = some oi)
    (h : ∀ K : Act → World → Prop, Shut (∀ b u, (late i = false → S u) → ((late i = false → S u) → Goes P ops Q S late n (li.setIfInBounds i true) b u) → K b u) → if Region.wanted oi (yielded ops a.tmps) = true then Oper.wp P oi a w K Q else K (a.put oi.dst undef) w) :
    Goes P ops Q S late (n + 1) li a w := by
  refine ⟨fun e => (by rw [e] at hr; cases hr), fun j hj => ?_⟩
  rw [hr] at hj
  obtain rfl := List.mem_singleton.1 hj
  exact wpOp_step hi (fun K' hK => h K' (fun b u hS hG => hK b u ⟨hS, hG hS⟩))
/- Numbers i and j are ready, and no other. -/
theorem Goes.two {i j : Nat} {oi oj : Oper} {n : Nat} {li : Array Bool} {a : Act} {w : World} (hr : Region.ready .any ops li = [i, j]) (hi : ops[i]? = some oi) (hj : ops[j]? = some oj)
    (h1 : ∀ K : Act → World → Prop, Shut (∀ b u, (late i = false → S u) → ((late i = false → S u) → Goes P ops Q S late n (li.setIfInBounds i true) b u) → K b u) → if Region.wanted oi (yielded ops a.tmps) = true then Oper.wp P oi a w K Q else K (a.put oi.dst undef) w)
    (h2 : ∀ K : Act → World → Prop, Shut (∀ b u, (late j = false → S u) → ((late j = false → S u) → Goes P ops Q S late n (li.setIfInBounds j true) b u) → K b u) → if Region.wanted oj (yielded ops a.tmps) = true then Oper.wp P oj a w K Q else K (a.put oj.dst undef) w) :
    Goes P ops Q S late (n + 1) li a w := by
  refine ⟨fun e => (by rw [e] at hr; cases hr), fun k hk => ?_⟩
  rw [hr] at hk
  rcases List.mem_cons.1 hk with rfl | hk
  · exact wpOp_step hi (fun K' hK => h1 K' (fun b u hS hG => hK b u ⟨hS, hG hS⟩))
  · obtain rfl := List.mem_singleton.1 hk
    exact wpOp_step hj (fun K' hK => h2 K' (fun b u hS hG => hK b u ⟨hS, hG hS⟩))
theorem Goes.done {li : Array Bool} {a : Act} {w : World} (hr : Region.ready .any ops li = []) (h : Q .normal a w) : ∀ n, Goes P ops Q S late n li a w
  | 0 => ⟨hr, h⟩
  | _ + 1 => ⟨fun _ => h, fun j hj => by rw [hr] at hj; cases hj⟩
/- The beginning. -/
theorem region_goes {id : Nat} {a : Act} {w : World} (S : World → Prop) (late : Nat → Bool) (hm : P.follows .mixedOrders = true) (hS : S w.drew)
    (h : S w.drew → Goes P ops Q S late ops.size (Array.replicate ops.size false) a w.drew) : (Code.region id ops true).wp P Q a w :=
  wp_region_any hm (h hS).any
end
end Go.Proofs.Ytbdbbnpkekcefaa.Late
