/- Contract of disk's Used: a range over the map of files, in whatever order. -/
import Derived.Test.YtiaaadeenbjciaaDiskBase
namespace Go.Proofs.Ytiaaadeenbjciaa.Disk
open Go.Proofs.Ytiaaadeenbjciaa.Mem
open Go.ChangeShapes Go.WideShapes Go.ChangeAt Go.RowKit
open Go.Proofs (encStr)
set_option linter.unusedVariables false
/- The step of a range over the files: none is left, or one comes that was left. -/
theorem wpList_next_files {w : World} {ops : Array Oper} {rest : List Oper} {o : Oper} {a : Act} {Q : Exit → Act → World → Prop} (hg : o.guard = none) (it : Operand) (hop : o.op = Op.next it false)
    (b r n : Nat) (D : DataW Nat) (left : Lit → Bool) (cnt : Nat) (es : List (Nm × Ent)) (ht : Tells D es) (hit : a.eval it = .pointer (some ⟨r, 0, none⟩)) (h : w.ranges Try.prog 9 ptrElem b r n D left cnt)
    (hDone : (∀ kl, left kl = false) → wpList Try.prog ops Q rest (a.put o.dst (.tuple #[.bool false])) w)
    (hMore : ∀ (x : Nm) (e : Ent) (w' : World) (cnt' : Nat), look x es = some e → left (.string x) = true → w'.ranges Try.prog 9 ptrElem b r n D (fun z => left z && !z.sameKey (.string x)) cnt' → cnt' < cnt →
      w.grownBy w' (some r) → (Instr.entry (.pointer (some ⟨r, 0, none⟩))).run Try.prog w' = .ok (.tuple #[encStr x, .pointer (some ⟨e.fb, 0, none⟩)]) w' → wpList Try.prog ops Q rest (a.put o.dst (.tuple #[.bool true, encStr x, .pointer (some ⟨e.fb, 0, none⟩)])) w') :
    wpList Try.prog ops Q (o :: rest) a w := by
  refine wpList_next_ranges w hg it hop 9 law ptrElem encStr ptrOf (fun key kl hk => by obtain ⟨x, hx, _⟩ := Maps.keyOf_str Try.underlying9 hk; exact ⟨x, hx⟩) (fun v y hv => by obtain ⟨c, hc, _⟩ := ptrElem_inv hv; exact ⟨c, hc⟩) b r n D left cnt hit h (fun _ hl => hDone hl) ?_
  intro x c kl y w' cnt' hkey hlk hv hat hrg hlt hgr hsz hen
  obtain ⟨x', ex, rfl, _⟩ := Maps.keyOf_str Try.underlying9 hkey
  obtain rfl : x = x' := encStr_inj ex
  have hh := Maps.has_true_of_atKey hat
  rw [ht.has] at hh
  obtain ⟨e, he⟩ := Option.isSome_iff_exists.1 hh
  have h1 := hat .nil
  rw [ht.key _ _ he] at h1
  obtain ⟨c', hc1, hc2⟩ := ptrElem_inv hv
  have hc : c = some e.fb := by
    rcases c with _ | b' <;> rcases c' with _ | b'' <;> simp [ptrOf] at hc1
    · rw [hc2] at h1; cases h1
    · subst hc1
      rw [hc2] at h1
      simp only [DataW.held.injEq] at h1
      rw [h1]
  subst hc
  exact hMore x e w' cnt' he hlk hrg hlt hgr hen
/- What has been met. -/
theorem struck_same (left : Lit → Bool) (n : Nm) : (left (.string n) && !(Lit.string n).sameKey (.string n)) = false := by simp [Lit.sameKey]
theorem struck_other (left : Lit → Bool) {n x : Nm} (h : x ≠ n) : (left (.string x) && !(Lit.string x).sameKey (.string n)) = left (.string x) := by simp [Lit.sameKey, h]
def met (left : Lit → Bool) : List (Nm × Ent) → Nat
  | [] => 0
  | x :: r => (if left (.string x.1) then 0 else x.2.bytes.length) + met left r
theorem total_cons {α : Type} (f : α → Nat) (x : Nm × α) (r : List (Nm × α)) : total f (x :: r) = f x.2 + total f r := by
  unfold total; rw [List.map_cons, List.sum_cons]
theorem met_none {left : Lit → Bool} : ∀ {es : List (Nm × Ent)}, (∀ x ∈ es, left (.string x.1) = true) → met left es = 0
  | [], _ => rfl
  | x :: r, h => by
    unfold met
    rw [h x List.mem_cons_self, met_none (fun y hy => h y (List.mem_cons_of_mem _ hy))]; rfl
theorem met_start {D : DataW Nat} {es : List (Nm × Ent)} (ht : Tells D es) (ha : Apart es) : met (Maps.has D) es = 0 :=
  met_none (fun x hx => by rw [ht.has, look_of_mem ha hx]; rfl)
theorem met_end {left : Lit → Bool} (hl : ∀ kl, left kl = false) : ∀ es : List (Nm × Ent), met left es = total (fun e : Ent => e.bytes.length) es
  | [] => rfl
  | x :: r => by
    unfold met
    rw [hl, met_end hl r, total_cons]; rfl
theorem met_le (left : Lit → Bool) : ∀ es : List (Nm × Ent), met left es ≤ total (fun e : Ent => e.bytes.length) es
  | [] => Nat.le_refl _
  | x :: r => by
    have ih := met_le left r
    unfold met
    rw [total_cons]
    split <;> omega
theorem met_other {left : Lit → Bool} {n : Nm} : ∀ {es : List (Nm × Ent)}, (∀ x ∈ es, x.1 ≠ n) → met (fun z => left z && !z.sameKey (.string n)) es = met left es
  | [], _ => rfl
  | x :: r, h => by
    unfold met
    rw [struck_other left (h x List.mem_cons_self), met_other (fun y hy => h y (List.mem_cons_of_mem _ hy))]
theorem met_step {left : Lit → Bool} {n : Nm} {e : Ent} : ∀ {es : List (Nm × Ent)}, Apart es → look n es = some e → left (.string n) = true → met (fun z => left z && !z.sameKey (.string n)) es = met left es + e.bytes.length
  | [], _, h, _ => by cases h
  | x :: r, hp, h, hl => by
    obtain ⟨h1, h2⟩ := List.pairwise_cons.1 hp
    unfold look at h
    unfold met
    by_cases e1 : x.1 = n
    · rw [if_pos e1] at h
      injection h with h
      rw [met_other (fun y hy e2 => h1 y hy (e1.trans e2.symm)), e1, struck_same, hl, h]
      simp only [if_true, Bool.false_eq_true, if_false]; omega
    · rw [if_neg e1] at h
      rw [met_step h2 h hl, struck_other left e1]
      omega
theorem used_eq {w : World} {p mb : Nat} {S : St} {cr : Option Addr} {es : List (Nm × Ent)} {D : DataW Nat} (h : At w p S mb cr es D) : total (fun e : Ent => e.bytes.length) es = used S := by
  unfold used
  rw [← h.files, total_mapv]; rfl
set_option maxRecDepth 100000 in
set_option maxHeartbeats 1000000 in
theorem used_at {w : World} {p mb : Nat} {S : St} {cr : Option Addr} {es : List (Nm × Ent)} {D : DataW Nat} (h : At w p S mb cr es D) (hu : used S ≤ 1000000000) :
    Calls Try.prog 31 #[.pointer (some ⟨p, 0, none⟩)] w fun e w' => e = .returned (.int .i64 (used S : Int)) ∧ Below w.heap.size w w' := by
  have c0 : w.cell? ⟨p, 0, none⟩ = some (.map (some mb)) := h.blk.cell 0
  have hap := h.apart
  have hue := Lib.hid (used_eq h)
  have hm := h.map
  have ht := h.tells
  go_enter Try.func31, Try.ntmps31
  go_wp2_with (first | (at_range; refine wpList_range_own _ rfl _ 62 rfl 9 66 law Try.underlying62 _ mb _ D rfl hm ?_; intro w0 hrg0 hg0 hs0))
  go_frame
  have hs := met_start ht hap
  clear hs0
  go_loopw [3] (fun n wr => ∃ left cnt, n = .int .i64 ((met left es : Nat) : Int) ∧ wr.ranges Try.prog 9 ptrElem mb w.heap.size es.length D left cnt ∧ w.grownBy wr none) (fun _ wr => wr.rangeLeft mb w.heap.size)
  case atStart => exact ⟨_, _, by rw [hs]; rfl, hrg0, hg0⟩
  case round =>
    obtain ⟨left, cnt, rfl, hrg, hgw⟩ := hrel
    have hle := met_le left es
    rw [hue.out] at hle
    go_wp2_with (first | (at_next; refine wpList_next_files rfl _ rfl mb w.heap.size _ D left cnt es ht rfl hrg ?_ ?_))
    · intro hl0
      have hend := Lib.hid ((met_end hl0 es).trans hue.out)
      clear hl0
      go_wp2
      go_ret
      exact ⟨by rw [← hend.out]; rfl, (But.of_grown hgw).below (Nat.le_refl _) (fun k hk => by cases hk)⟩
    · intro x e w2 cnt2 hx hlk hrg2 hlt hg2 hen
      have hE := h.ents _ (look_mem hx)
      have hst := Lib.hid (met_step hap hx hlk)
      have hle2 := met_le (fun z => left z && !z.sameKey (.string x)) es
      rw [hst.out, hue.out] at hle2
      have hgw2 := hgw.andThen hg2 (fun j hj => .inl (by injection hj with hj; omega))
      have hE2 : EntAt w2 e := hE.but (But.of_grown hgw2) (fun hk => by cases hk) (fun k _ hk => by cases hk)
      obtain ⟨s1, s2, s3, s4, s5⟩ : ∃ a cap, e.v = .slice a e.bytes.length cap ∧ True ∧ True := by
        obtain ⟨a, cap, hv, _⟩ := own_shape hE2.2 (h.ent (look_mem hx)).2
        exact ⟨a, cap, hv, trivial, trivial⟩
      have k0 : w2.cell? ⟨e.fb, 0, none⟩ = some (.slice s1 e.bytes.length s2) := by rw [← s3]; exact hE2.1.cell 0
      have HR := Lib.hid hrg2
      have HG := Lib.hid hgw2
      clear hE hE2 s3 s4 s5 hrg2 hgw2 hg2 hx hlk
      go_wp2
      go_roundw
      case rel => exact ⟨_, _, by rw [hst.out]; go_num, HR.out, HG.out⟩
      case measure => rw [HR.out.left_eq, hrg.left_eq]; omega
end Go.Proofs.Ytiaaadeenbjciaa.Disk
