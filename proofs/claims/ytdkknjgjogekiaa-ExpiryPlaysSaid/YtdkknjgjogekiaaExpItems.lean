/- The heap as what a rising list of items tells: contracts of the program's calls over it. -/
import Derived.Test.YtdkknjgjogekiaaExpCalls
namespace Go.Proofs.Ytdkknjgjogekiaa.Exp
open Go.Proofs.Ytdkknjgjogekiaa.Mem
open Go.ChangeShapes Go.WideShapes Go.ChangeAt Go.RowKit
set_option linter.unusedVariables false
set_option linter.unusedSimpArgs false
def HM (w : World) (B p : Nat) (v : Value) (m : List It) : Prop := ∃ l, HAt w B p v l ∧ Hp l ∧ l.Perm m ∧ Ris m
section
variable {w w' : World} {B p : Nat} {v : Value} {l m : List It}
theorem HM.but {F : Nat → Prop} (h : HM w B p v m) (hb : But F w w') (h1 : ¬ F p) (h2 : ∀ k, v.ownBlock = some k → ¬ F k) : HM w' B p v m := by
  obtain ⟨l, h, r⟩ := h
  exact ⟨l, h.but hb h1 h2, r⟩
theorem HM.new (h : HM w B p v m) (hb : But (fun _ => False) w w') : HM w' B p v m := h.but hb (fun h => h) (fun _ _ h => h)
theorem HM.lt (h : HM w B p v m) : p < w.heap.size ∧ ∀ k, v.ownBlock = some k → B ≤ k ∧ k < w.heap.size ∧ k ≠ p := by
  obtain ⟨l, h, r⟩ := h
  exact h.lt
theorem HM.few (h : HM w B p v m) : m.length ≤ 1000 := by
  obtain ⟨l, h, _, hp, _⟩ := h
  rw [← hp.length_eq]
  exact h.few
theorem hnew_any (w : World) : Calls Try.prog 6 #[] w fun e w' => e = .returned (.pointer (some ⟨w.heap.size, 0, none⟩)) ∧ HM w' w.heap.size w.heap.size (.slice none 0 0) [] ∧ But (fun _ => False) w w' := by
  refine (new_any w).mono ?_
  rintro e w' ⟨rfl, h, hb⟩
  exact ⟨rfl, ⟨[], h, hp_nil, List.Perm.refl _, List.Pairwise.nil⟩, hb⟩
theorem hlen_any (h : HM w B p v m) : Calls Try.prog 13 #[.pointer (some ⟨p, 0, none⟩)] w fun e w' => e = .returned (.int .i64 (m.length : Int)) ∧ w' = w := by
  obtain ⟨l, h, _, hp, _⟩ := h
  rw [← hp.length_eq]
  exact len_any h
theorem hpush_any' (h : HM w B p v m) (x : It) (hl : m.length + 1 ≤ 1000) :
    Calls Try.prog 8 #[.pointer (some ⟨p, 0, none⟩), .agg #[.int .u64 (x.time : Int), .string x.key]] w fun e w' => e = .returned (.tuple #[]) ∧ ∃ v', HM w' B p v' (ins m x) ∧ But (Foot p v) w w' ∧ Next w v v' := by
  obtain ⟨l, h, hh, hp, hr⟩ := h
  refine (push_any h hh x (by rw [hp.length_eq]; exact hl)).mono ?_
  rintro e w' ⟨rfl, v', l', hA, hH, hP, hB, hN⟩
  exact ⟨rfl, v', ⟨l', hA, hH, hP.trans ((List.Perm.cons x hp).trans (ins_perm m x).symm), ins_ris hr x⟩, hB, hN⟩
theorem hpop_yes {y : It} (h : HM w B p v (y :: m)) :
    Calls Try.prog 10 #[.pointer (some ⟨p, 0, none⟩)] w fun e w' => e = .returned (.tuple #[.agg #[.int .u64 (y.time : Int), .string y.key], .bool true]) ∧ ∃ v', HM w' B p v' m ∧ But (Foot p v) w w' ∧ v'.ownBlock = v.ownBlock := by
  obtain ⟨l, h, hh, hp, hr⟩ := h
  have hl : 0 < l.length := by rw [hp.length_eq]; simp
  have hy : look l 0 = y := by
    obtain ⟨a, t, rfl⟩ : ∃ a t, l = a :: t := List.exists_cons_of_length_pos hl
    exact least_one hh hr hp
  refine (pop_yes h hh hl).mono ?_
  rintro e w' ⟨rfl, v', l', hA, hH, hP, hB, hN⟩
  rw [hy] at hP ⊢
  exact ⟨rfl, v', ⟨l', hA, hH, ((hP.symm.trans hp)).cons_inv, (List.pairwise_cons.1 hr).2⟩, hB, hN⟩
theorem hpop_no (h : HM w B p v []) :
    Calls Try.prog 10 #[.pointer (some ⟨p, 0, none⟩)] w fun e w' => e = .returned (.tuple #[.agg #[.int .u64 0, .string ⟨#[]⟩], .bool false]) ∧ But (fun _ => False) w w' := by
  obtain ⟨l, h, hh, hp, hr⟩ := h
  have : l = [] := List.eq_nil_of_length_eq_zero (by rw [hp.length_eq]; rfl)
  subst this
  exact pop_no h
/- A slice of items that came of a call: its cells, wherever it begins. -/
def Shows (w : World) (t : TypeId) (a : Option Addr) (l : List It) : Prop := l = [] ∨ ∃ g off, a = some ⟨g, off, none⟩ ∧ (∃ cs, Blk w g t cs) ∧ ∀ i, i < l.length → w.rangeAt g (off + i * 2) (icells (look l i))
theorem Shows.cells {t : TypeId} {a : Option Addr} (h : Shows w t a l) {i : Nat} (hi : i < l.length) : ∃ g off, a = some ⟨g, off, none⟩ ∧ g < w.heap.size ∧ w.rangeAt g (off + i * 2) (icells (look l i)) := by
  rcases h with rfl | ⟨g, off, h1, ⟨cs, h2⟩, h3⟩
  · simp at hi
  · exact ⟨g, off, h1, h2.lt, h3 i hi⟩
theorem Shows.but {t : TypeId} {a : Option Addr} {F : Nat → Prop} (h : Shows w t a l) (hb : But F w w') (hF : ∀ g off, a = some ⟨g, off, none⟩ → ¬ F g) : Shows w' t a l := by
  rcases h with h | ⟨g, off, h1, ⟨cs, h2⟩, h3⟩
  · exact .inl h
  · refine .inr ⟨g, off, h1, ⟨cs, h2.but hb (hF g off h1)⟩, fun i hi j u hu => ?_⟩
    exact (hb.cell (p := ⟨g, off + i * 2 + j, none⟩) h2.lt (hF g off h1)).trans (h3 i hi j u hu)
theorem Shows.of_own {t : TypeId} {n : Nat} (h : w.ownsRow B t 2 v n (rowI l)) : ∃ a c, v = .slice a l.length c ∧ Shows w t a l ∧ (∀ g off, a = some ⟨g, off, none⟩ → B ≤ g ∧ g < w.heap.size) := by
  have hl := h.1
  rw [rowI_length] at hl
  have hn : l.length = n := by omega
  rcases h.2 with ⟨h1, h2⟩ | ⟨g, cap, cur, h1, h2, h3, h4, h5, h6, h7⟩
  · exact ⟨none, 0, by rw [h1, hn, h2], .inl (List.eq_nil_of_length_eq_zero (by omega)), fun g off e => by cases e⟩
  · refine ⟨_, cap, by rw [h1, hn], .inr ⟨g, 0, rfl, ⟨cur, h3⟩, fun i hi => ?_⟩, fun g' off e => ?_⟩
    · have hr : IRow w t g l (cur.toList.drop (n * 2)) := ⟨by
        show w.heap[g]? = _
        rw [← h7, List.take_append_drop, Array.toArray_toList]
        exact h3⟩
      rw [Nat.zero_add]
      exact hr.range hi
    · injection e with e
      injection e with e1 e2
      subst e1
      exact ⟨h2, (Array.getElem?_eq_some_iff.1 h3).1⟩
theorem row_at {a : Nat} {k off : Nat} (hr : ∀ i, i < l.length → w.rangeAt k (off + i * 2) (icells (look l i))) {j : Nat} {u : Value} (hu : (rowI l)[j]? = some u) : w.cell? ⟨k, off + j, none⟩ = some u := by
  have hj : j < l.length * 2 := by rw [← rowI_length]; exact (List.getElem?_eq_some_iff.1 hu).1
  have e : j = j / 2 * 2 + j % 2 := by omega
  have hi : j / 2 < l.length := by omega
  have h1 : (rowI l)[j / 2 * 2 + j % 2]? = (icells (look l (j / 2)))[j % 2]? := flat_get icells_length (look_some hi) (Nat.mod_lt _ (by omega))
  rw [← e, hu] at h1
  have := hr (j / 2) hi (j % 2) u h1.symm
  rw [Nat.add_assoc, ← e] at this
  exact this
theorem Shows.sees {t : TypeId} {a : Option Addr} {n c : Nat} (h : Shows w t a l) (hn : n = l.length) (hc : a = none → c = 0) : Sees w 2 (.slice a n c) n (rowI l) := by
  subst hn
  rcases h with rfl | ⟨g, off, rfl, ⟨cs, h2⟩, h3⟩
  · cases a with
    | none => exact .inl ⟨by rw [hc rfl]; rfl, rfl, rfl⟩
    | some p => exact .inr ⟨p, c, rfl, by simp [rowI], fun j u hu => by simp [rowI] at hu⟩
  · refine .inr ⟨_, c, rfl, rowI_length l, fun j u hu => ⟨?_, ?_⟩⟩
    · exact h2.lt
    · rw [add_none]
      exact row_at (a := 0) h3 hu
theorem rowI_one (l : List It) : ∀ u ∈ rowI l, u.oneCell' = true := by
  intro u hu
  obtain ⟨x, _, hx⟩ := List.mem_flatMap.1 hu
  exact icells_one x u hx
theorem eq_none (w : World) : (binOp .eql 45 (.slice none 0 0) (.slice none 0 0)).run Try.prog w = .ok (.bool true) w := by kernel_rfl
theorem eq_some (w : World) (q : Addr) (n c : Nat) : (binOp .eql 45 (.slice (some q) n c) (.slice none 0 0)).run Try.prog w = .ok (.bool false) w := by kernel_rfl
def Told2 (w : World) (l : List It) (e : Ending) (w' : World) : Prop := ∃ a c, e = .returned (.slice a l.length c) ∧ Shows w' 29 a l ∧ (∀ g off, a = some ⟨g, off, none⟩ → w.heap.size ≤ g) ∧ (a = none → c = 0) ∧ But (fun _ => False) w w'
set_option maxRecDepth 100000 in
set_option maxHeartbeats 1000000 in
theorem clone_any {a : Option Addr} {n c : Nat} (h : Shows w 29 a l) (hn : n = l.length) (hc : a = none → c = 0 ∧ n = 0) (hl : n ≤ 1000) :
    Calls Try.prog 18 #[.slice a n c] w fun e w' => Told2 w l e w' := by
  obtain ⟨i0, hi0, hz⟩ := Option.map_eq_some_iff.1 item_info
  simp only [Prod.mk.injEq] at hz
  obtain ⟨hz0, hz1, hz2⟩ := hz
  have en := eq_none
  have es := eq_some
  cases a with
  | none =>
    obtain ⟨rfl, h0⟩ := hc rfl
    have hl0 : l = [] := List.eq_nil_of_length_eq_zero (by omega)
    subst hl0
    subst h0
    clear h hn
    go_enter Try.func18, Try.ntmps18
    go_wp2_with fail
    go_ret
    exact ⟨none, 0, rfl, .inl rfl, (fun g off e => by cases e), (fun _ => rfl), But.refl _ _⟩
  | some q =>
    have hb1 : But (fun _ => False) w (w.alloc (.cells #[] 29)) := (But.refl _ w).alloc _
    have HS1 := Lib.hid ((h.but hb1 (fun _ _ _ h => h)).sees hn (fun e => by cases e) (c := c))
    have HO1 := Lib.hid (show (w.alloc (.cells #[] 29)).ownsRow w.heap.size 29 2 (.slice (some ⟨w.heap.size, 0, none⟩) 0 0) 0 [] from ⟨rfl, .inr ⟨_, 0, #[], rfl, Nat.le_refl _, Blk.new w _ _, Nat.le_refl _, Nat.zero_le _, rfl, rfl⟩⟩)
    have HB1 := Lib.hid hb1
    have HN := Lib.hid hn
    clear h hb1 hn hc
    go_enter Try.func18, Try.ntmps18
    go_wp2_with (at_builtin; refine wpList_append_onto rfl _ _ _ rfl w.heap.size 29 i0 _ 2 24 Try.underlying45 hi0 hz0 hz1 hz2 rfl (by omega) (.slice (some ⟨w.heap.size, 0, none⟩) 0 0) 0 [] rfl HO1.out (.slice (some q) n c) n (rowI l) rfl HS1.out (rowI_one l) (by unfold maxLen; omega) (by omega) (by have := HB1.out.size; omega) ?_; intro v2 w2 ho2 hon2)
    rw [Nat.zero_add, List.nil_append] at ho2
    obtain ⟨a2, c2, rfl, hs2, hg2⟩ := Shows.of_own ho2
    have hb2 : But (fun _ => False) w w2 := HB1.out.trans hon2.but (fun i hi e => by
      have e1 : i = w.heap.size := Option.some.inj e
      omega)
    have hnn : a2 = none → c2 = 0 := by
      intro e
      subst e
      rcases ho2.2 with ⟨h1, _⟩ | ⟨g, cap, cur, h1, _⟩
      · injection h1
      · injection h1 with h1; cases h1
    have HEND := Lib.hid (show Told2 w l (.returned (.slice a2 l.length c2)) w2 from ⟨a2, c2, rfl, hs2, (fun g off e => (hg2 g off e).1), hnn, hb2⟩)
    clear ho2 hon2 hs2 hg2 hb2 hnn
    go_wp2_with fail
    go_ret
    exact HEND.out
theorem hitems_any (h : HM w B p v m) :
    Calls Try.prog 12 #[.pointer (some ⟨p, 0, none⟩)] w fun e w' => ∃ l, Hp l ∧ l.length = m.length ∧ Told2 w l e w' := by
  have hfew := h.few
  obtain ⟨l, h, hh, hp, hr⟩ := h
  obtain ⟨a, c, hv, hs, hg⟩ := Shows.of_own h.own
  have hc : a = none → c = 0 ∧ l.length = 0 := by
    intro e
    subst e
    rcases h.own.2 with ⟨h1, h2⟩ | ⟨g, cap, cur, h1, _⟩
    · rw [hv] at h1
      injection h1 with _ h3 h4
      exact ⟨h4, h3⟩
    · rw [hv] at h1
      injection h1 with h1; cases h1
  have HC := Lib.hid (clone_any hs rfl hc (by rw [hp.length_eq]; exact hfew))
  have k0 : w.cell? ⟨p, 0, none⟩ = some v := h.blk.cell 0
  rw [hv] at k0
  have HH := Lib.hid (And.intro hh hp.length_eq)
  clear h hh hp hr hs hg hc hv hfew
  generalize l.length = n at k0 HC
  go_enter Try.func12, Try.ntmps12
  go_wp2_with fail
  refine HC.out.mono ?_
  rintro e w2 ⟨a2, c2, rfl, h1, h2⟩
  have HEND := Lib.hid (show Told2 w l (.returned (.slice a2 l.length c2)) w2 from ⟨a2, c2, rfl, h1, h2⟩)
  clear h1 h2 HC
  go_wp2_with fail
  go_ret
  exact ⟨l, HH.out.1, HH.out.2, HEND.out⟩
end
end Go.Proofs.Ytdkknjgjogekiaa.Exp
