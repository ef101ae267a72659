/- A region that draws its order, with a fact of the world that holds behind each of its operations but the late ones: those that wait for whatever is taken first by that fact (a statement's own store, which comes last). So loads of the very cell that the statement writes may be taken first. -/
import Derived.Test.YtgfhcbdhggnbaaaOwn
import Derived.Deep.RegionHeld
namespace Go.Proofs.Ytgfhcbdhggnbaaa.Late
set_option linter.unusedVariables false
section
variable {P : Program} {ops : Array Oper} {Q : Exit → Act → World → Prop} {S : World → Prop} {late : Nat → Bool}

/- Whatever comes up next, and so on to the end. -/
def Goes (P : Program) (ops : Array Oper) (Q : Exit → Act → World → Prop) (S : World → Prop) (late : Nat → Bool) : Nat → Array Bool → Act → World → Prop
  | 0, li, a, w => Region.ready .any ops li = [] ∧ Q .normal a w
  | n + 1, li, a, w => (Region.ready .any ops li = [] → Q .normal a w) ∧
      ∀ j, j ∈ Region.ready .any ops li → wpOp P ops Q j (fun b u => (late j = false → S u) ∧ Goes P ops Q S late n (li.setIfInBounds j true) b u) a w
theorem Goes.any : ∀ {n : Nat} {li : Array Bool} {a : Act} {w : World}, Goes P ops Q S late n li a w → wpAny P .any ops Q n li a w
  | 0, _, _, _, h => h
  | _ + 1, _, _, _, h => ⟨h.1, fun j hj => wpOp_mono (fun _ _ k => k.2.any) (h.2 j hj)⟩
/- Each late operation waits for number i. -/
def waits (ops : Array Oper) (late : Nat → Bool) (i : Nat) : Bool :=
  (List.range ops.size).all fun j => j == i || !late j || ((ops[j]?.map fun o => o.after.any fun e => Region.binds .any e && e.on == i).getD true)
theorem waits_spec {i j : Nat} {o : Oper} (h : waits ops late i = true) (hj : ops[j]? = some o) (hne : j ≠ i) (hl : late j = true) : ∃ e ∈ o.after, Region.binds .any e = true ∧ e.on = i := by
  have h1 := List.all_eq_true.1 h j (List.mem_range.2 (Array.getElem?_eq_some_iff.1 hj).1)
  simp only [hj, hl, Option.map_some, Option.getD_some, Bool.not_true, Bool.or_false, Bool.or_eq_true, beq_iff_eq] at h1
  obtain ⟨k, hk, h2⟩ : ∃ k, ∃ h : k < o.after.size, Region.binds .any o.after[k] = true ∧ o.after[k].on = i := by simpa using h1.resolve_left hne
  exact ⟨_, Array.getElem_mem hk, h2⟩
/- Number i, which is ready, binds nobody that is ready. -/
theorem unbound {i j : Nat} {o : Oper} {li : Array Bool} (hi : i ∈ Region.ready .any ops li) (hj : j ∈ Region.ready .any ops li) (ho : ops[j]? = some o) : ∀ e ∈ o.after, Region.binds .any e = true → e.on ≠ i := by
  intro e he hb heq
  obtain ⟨_, o', ho', hall⟩ := mem_ready.1 hj
  rw [ho] at ho'
  injection ho' with ho'
  subst ho'
  have h1 := hall e he hb
  have h0 := (mem_ready.1 hi).1
  rw [heq] at h1
  simp only [Array.getD_eq_getD_getElem?] at h0 h1
  cases hk : li[i]? with
  | none => rw [hk] at h1; cases h1
  | some b =>
    rw [hk] at h0 h1
    simp only [Option.getD_some] at h0 h1
    rw [h0] at h1; cases h1
theorem Goes.first {i : Nat} {oi : Oper} {v : Value} (hi : ops[i]? = some oi) (hs : Region.noSelect ops = true) (hw : waits ops late i = true) (hQ : ∀ c a w, Q (.panic c) (a.put oi.dst v) w → Q (.panic c) a w) (n : Nat) :
    ∀ (li : Array Bool) (a : Act) (w : World), (∀ j o, ops[j]? = some o → j ≠ i → li.getD j true = false → (∀ e ∈ o.after, Region.binds .any e = true → e.on ≠ i) → oi.apart ops o = true) →
      i ∈ Region.ready .any ops li → YieldsIf P ops S oi v a → S w → Goes P ops Q S late n (li.setIfInBounds i true) (a.put oi.dst v) w → Goes P ops Q S late (n + 1) li a w := by
  induction n with
  | zero =>
    intro li a w _ hr hy hS H
    refine ⟨fun h => absurd hr (by rw [h]; exact List.not_mem_nil), fun j hj => ?_⟩
    by_cases e : j = i
    · rw [e]; exact hy.wpOp hi hS ⟨fun _ => hS, H⟩
    · have := ready_mono hj e
      rw [H.1] at this
      cases this
  | succ n ih =>
    intro li a w hfr hr hy hS H
    refine ⟨fun h => absurd hr (by rw [h]; exact List.not_mem_nil), fun j hj => ?_⟩
    by_cases e : j = i
    · rw [e]; exact hy.wpOp hi hS ⟨fun _ => hS, H⟩
    · obtain ⟨hun, o, ho, _⟩ := mem_ready.1 hj
      have hub := unbound hr hj ho
      have hnl : late j = false := by
        cases hl : late j with
        | false => rfl
        | true =>
          obtain ⟨x, hx, hb, hx2⟩ := waits_spec hw ho e hl
          exact (hub x hx hb hx2).elim
      have k := wpOp_putIf ho (hfr j o ho e hun hub) (fun cs b => Region.noSelect_spec hs i oi cs b hi) (fun cs b => Region.noSelect_spec hs j o cs b ho) hQ hy (H.2 j (ready_mono hj e))
      refine wpOp_mono (fun b u k2 => ⟨k2.2.1, ih _ b u (fun x ox hx hne hx2 hx3 => hfr x ox hx hne ?_ hx3) (ready_mono hr (Ne.symm e)) k2.1 (k2.2.1 hnl) ?_⟩) k
      · by_cases e2 : j = x
        · exact e2 ▸ hun
        · rwa [getD_set_ne true e2] at hx2
      · rw [Array.setIfInBounds_comm _ _ e]
        exact k2.2.2
/- Number i is taken first. -/
theorem Goes.take {i : Nat} {oi : Oper} {v : Value} {n : Nat} {li : Array Bool} {a : Act} {w : World} (hi : ops[i]? = some oi) (hs : Region.noSelect ops = true) (hf : Region.free .any ops li i = true) (hr : (Region.ready .any ops li).contains i = true)
    (hw : waits ops late i = true) (hQ : ∀ c a w, Q (.panic c) (a.put oi.dst v) w → Q (.panic c) a w) (hy : YieldsIf P ops S oi v a) (hS : S w)
    (h : Goes P ops Q S late n (li.setIfInBounds i true) (a.put oi.dst v) w) : Goes P ops Q S late (n + 1) li a w :=
  Goes.first hi hs hw hQ n li a w (Region.free_spec hi hf) (by simpa using hr) hy hS h
/- Number i alone is ready. -/
theorem Goes.one {i : Nat} {oi : Oper} {n : Nat} {li : Array Bool} {a : Act} {w : World} (hr : Region.ready .any ops li = [i]) (hi : ops[i]? = some oi)
    (h : ∀ K : Act → World → Prop, Shut (∀ b u, (late i = false → S u) → ((late i = false → S u) → Goes P ops Q S late n (li.setIfInBounds i true) b u) → K b u) → if Region.wanted oi (yielded ops a.tmps) = true then Oper.wp P oi a w K Q else K (a.put oi.dst undef) w) :
    Goes P ops Q S late (n + 1) li a w := by
  refine ⟨fun e => (by rw [e] at hr; cases hr), fun j hj => ?_⟩
  rw [hr] at hj
  obtain rfl := List.mem_singleton.1 hj
  exact wpOp_step hi (fun K' hK => h K' (fun b u hS hG => hK b u ⟨hS, hG hS⟩))
theorem Goes.done {li : Array Bool} {a : Act} {w : World} (hr : Region.ready .any ops li = []) (h : Q .normal a w) : ∀ n, Goes P ops Q S late n li a w
  | 0 => ⟨hr, h⟩
  | _ + 1 => ⟨fun _ => h, fun j hj => by rw [hr] at hj; cases hj⟩
/- The beginning. -/
theorem region_goes {id : Nat} {a : Act} {w : World} (S : World → Prop) (late : Nat → Bool) (hm : P.follows .mixedOrders = true) (hS : S w.drew)
    (h : S w.drew → Goes P ops Q S late ops.size (Array.replicate ops.size false) a w.drew) : (Code.region id ops true).wp P Q a w :=
  wp_region_any hm (h hS).any
end
end Go.Proofs.Ytgfhcbdhggnbaaa.Late
