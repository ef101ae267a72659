/- Contracts of disk's New, Plan, Open, Down, Effects and find. -/
import Derived.Test.YtiaaadeenbjciaaDiskAt
import Derived.Handy
namespace Go.Proofs.Ytiaaadeenbjciaa.Disk
open Go.Proofs.Ytiaaadeenbjciaa.Mem
open Go.ChangeShapes Go.WideShapes Go.ChangeAt Go.RowKit
set_option linter.unusedVariables false
/- An error's number, as the call tells it. -/
def errV (c : Int) : Value := if c = 0 then .nilIface else .iface 52 (.int .i64 c)
def fresh (cap : Int) : St := ⟨cap, [], 0, none, false⟩
theorem good_fresh (cap : Int) : Good (fresh cap) := ⟨List.Pairwise.nil, (by intro x hx; cases hx), (by intro l k h; cases h)⟩
theorem at_fresh (cap : Int) (w : World) : At ((w.alloc (.map #[] 0)).alloc (.cells #[.map (some w.heap.size), .int .i64 cap, .int .i64 0, .pointer none, .bool false] 65)) (w.heap.size + 1) (fresh cap) w.heap.size none [] (.map []) where
  blk := by
    have := Blk.new (w.alloc (.map #[] 0)) 65 #[.map (some w.heap.size), .int .i64 cap, .int .i64 0, .pointer none, .bool false]
    rw [show (w.alloc (.map #[] 0)).heap.size = w.heap.size + 1 by simp] at this
    exact this
  map := (World.ownsMap_made w _ _ _).alloc _
  tells := ⟨fun x => rfl, (fun x e h => by cases h), rfl⟩
  plan := fun _ => rfl
  crlt := fun a h => by cases h
  files := rfl
  ents := fun x hx => by cases hx
  sep := List.Pairwise.nil
  good := good_fresh cap
set_option maxRecDepth 100000 in
set_option maxHeartbeats 1000000 in
theorem new_any (cap : Int) (w : World) :
    Calls Try.prog 7 #[.int .i64 cap] w fun e w' => ∃ p, e = .returned (.pointer (some ⟨p, 0, none⟩)) ∧ w.heap.size ≤ p ∧ Has w' p (fresh cap) (grow (fun _ => False) w w') ∧ But (fun _ => False) w w' := by
  have hmm := @run_makeMap Try.prog
  go_enter Try.func7, Try.ntmps7
  go_wp2
  go_ret
  have hb : But (fun _ => False) w ((w.alloc (.map #[] 0)).alloc (.cells #[.map (some w.heap.size), .int .i64 cap, .int .i64 0, .pointer none, .bool false] 65)) := ((But.refl _ w).alloc _).alloc _
  refine ⟨w.heap.size + 1, rfl, by omega, (at_fresh cap w).hasGrow hb (fun k hk => hk.elim) ?_, hb⟩
  rintro k (rfl | rfl | ⟨a, ha, _⟩ | ⟨x, hx, _⟩)
  · exact .inr (by omega)
  · exact .inr (by omega)
  · cases ha
  · cases hx
theorem at_planned {w : World} {p : Nat} {S : St} {mb : Nat} {cr : Option Addr} {es : List (Nm × Ent)} {D : DataW Nat} (h : At w p S mb cr es D) (l k : Int) (hl : 0 ≤ l ∧ l ≤ 9223372036854775807) (hk : 0 ≤ k ∧ k ≤ 9223372036854775807) :
    At ((w.setCell ⟨p, 3, none⟩ (.pointer (some ⟨w.heap.size, 0, none⟩))).alloc (.cells #[.int .i64 l, .int .i64 k] 74)) p { S with plan := some (l, k) } mb (some ⟨w.heap.size, 0, none⟩) es D := by
  have hp := h.blk.lt
  have hb : But (fun k => k = p) w ((w.setCell ⟨p, 3, none⟩ (.pointer (some ⟨w.heap.size, 0, none⟩))).alloc (.cells #[.int .i64 l, .int .i64 k] 74)) := (but_set w p 3 _).alloc _
  refine h.disk hb (fun g hg => ⟨_, _, hg ▸ h.blk, by decide, by decide⟩) rfl ?_ ?_ ?_ ?_
  · exact (h.blk.set_ 3 _).but (T := fun _ => False) ((But.refl _ _).alloc _) (fun h => h)
  · intro _
    refine ⟨_, rfl, ?_⟩
    have := Blk.new (w.setCell ⟨p, 3, none⟩ (.pointer (some ⟨w.heap.size, 0, none⟩))) 74 #[.int .i64 l, .int .i64 k]
    simpa using this
  · intro a ha
    injection ha with ha
    subst ha
    simp
  · intro l' k' e
    injection e with e
    injection e with e1 e2
    subst e1 e2
    exact ⟨hl.1, hl.2, hk.1, hk.2⟩
set_option maxRecDepth 100000 in
set_option maxHeartbeats 1000000 in
theorem plan_any (p : Nat) (S : St) (F : Nat → Prop) (l k : Int) (hl : l ≤ 9223372036854775807) (hk : k ≤ 9223372036854775807) (w : World) (h : Has w p S F) :
    Calls Try.prog 15 #[.pointer (some ⟨p, 0, none⟩), .int .i64 l, .int .i64 k] w fun e w' => e = .returned (.tuple #[]) ∧ Has w' p (planned S l k) (grow F w w') ∧ But F w w' := by
  obtain ⟨mb, cr, es, D, hA, hF, hlt⟩ := h
  have hp := hA.blk.lt
  have c3 : w.cell? ⟨p, 3, none⟩ = some (.pointer cr) := hA.blk.cell 3
  have f3 := hA.blk.frozen 3
  have hfin : ∀ l' k', max l 0 = l' → max k 0 = k' → (Has ((w.setCell ⟨p, 3, none⟩ (.pointer (some ⟨w.heap.size, 0, none⟩))).alloc (.cells #[.int .i64 l', .int .i64 k'] 74)) p (planned S l k) (grow F w ((w.setCell ⟨p, 3, none⟩ (.pointer (some ⟨w.heap.size, 0, none⟩))).alloc (.cells #[.int .i64 l', .int .i64 k'] 74))) ∧
      But F w ((w.setCell ⟨p, 3, none⟩ (.pointer (some ⟨w.heap.size, 0, none⟩))).alloc (.cells #[.int .i64 l', .int .i64 k'] 74))) := by
    intro l' k' el ek
    have hb : But F w ((w.setCell ⟨p, 3, none⟩ (.pointer (some ⟨w.heap.size, 0, none⟩))).alloc (.cells #[.int .i64 l', .int .i64 k'] 74)) := ((but_set w p 3 _).mono (T := F) (fun i _ e => e ▸ hF p (.inl rfl))).alloc _
    refine ⟨?_, hb⟩
    have e : planned S l k = { S with plan := some (l', k') } := by unfold planned; rw [el, ek]
    rw [e]
    refine (at_planned hA l' k' (by omega) (by omega)).hasGrow hb hlt ?_
    rintro i (rfl | rfl | ⟨a, ha, rfl⟩ | h4)
    · exact .inl (hF _ (.inl rfl))
    · exact .inl (hF _ (.inr (.inl rfl)))
    · injection ha with ha
      subst ha
      exact .inr (Nat.le_refl _)
    · exact .inl (hF _ (.inr (.inr (.inr h4))))
  have HF := Lib.hid hfin
  clear hfin hA hF hlt
  go_enter Try.func15, Try.ntmps15
  go_wp2
  all_goals (go_end0; refine ⟨rfl, HF.out _ _ ?_ ?_⟩ <;> omega)
set_option maxRecDepth 100000 in
set_option maxHeartbeats 1000000 in
theorem open_any (p : Nat) (S : St) (F : Nat → Prop) (w : World) (h : Has w p S F) :
    Calls Try.prog 17 #[.pointer (some ⟨p, 0, none⟩)] w fun e w' => e = .returned (.tuple #[]) ∧ Has w' p (opened S) (grow F w w') ∧ But F w w' := by
  obtain ⟨mb, cr, es, D, hA, hF, hlt⟩ := h
  have c3 : w.cell? ⟨p, 3, none⟩ = some (.pointer cr) := hA.blk.cell 3
  have f3 := hA.blk.frozen 3
  have c4 : w.cell? ⟨p, 4, none⟩ = some (.bool S.down) := hA.blk.cell 4
  have f4 := hA.blk.frozen 4
  go_enter Try.func17, Try.ntmps17
  go_wp2
  go_end0
  have hb0 : But (fun k => k = p) w ((w.setCell ⟨p, 4, none⟩ (.bool false)).setCell ⟨p, 3, none⟩ (.pointer none)) := (but_set w p 4 _).trans' (but_set _ p 3 _)
  have hb := hb0.mono (T := F) (fun i _ e => e ▸ hF p (.inl rfl))
  refine ⟨rfl, At.hasGrow (mb := mb) (cr := none) (es := es) (D := D) (hA.disk hb0 (fun g hg => ⟨_, _, hg ▸ hA.blk, by decide, by decide⟩) rfl ?_ (fun _ => rfl) (fun a h => by cases h) (fun l k h => by cases h)) hb hlt ?_, hb⟩
  · exact (hA.blk.set_ 4 (.bool false)).set_ 3 (.pointer none)
  · rintro i (h4 | h4 | ⟨a, ha, _⟩ | h4)
    · exact .inl (hF _ (.inl h4))
    · exact .inl (hF _ (.inr (.inl h4)))
    · cases ha
    · exact .inl (hF _ (.inr (.inr (.inr h4))))
theorem down_any (p : Nat) (S : St) (F : Nat → Prop) (w : World) (h : Has w p S F) :
    Calls Try.prog 30 #[.pointer (some ⟨p, 0, none⟩)] w fun e w' => e = .returned (.bool S.down) ∧ w = w' := by
  obtain ⟨mb, cr, es, D, hA, hF, hlt⟩ := h
  have c4 : w.cell? ⟨p, 4, none⟩ = some (.bool S.down) := hA.blk.cell 4
  clear hA hF hlt
  go_enter Try.func30, Try.ntmps30
  go_wp2
  go_ret
  exact ⟨rfl, rfl⟩
theorem effects_any (p : Nat) (S : St) (F : Nat → Prop) (w : World) (h : Has w p S F) :
    Calls Try.prog 39 #[.pointer (some ⟨p, 0, none⟩)] w fun e w' => e = .returned (.int .i64 S.effects) ∧ w = w' := by
  obtain ⟨mb, cr, es, D, hA, hF, hlt⟩ := h
  have c2 : w.cell? ⟨p, 2, none⟩ = some (.int .i64 S.effects) := hA.blk.cell 2
  clear hA hF hlt
  go_enter Try.func39, Try.ntmps39
  go_wp2
  go_ret
  exact ⟨rfl, rfl⟩
section
variable {w : World} {p mb : Nat} {S : St} {cr : Option Addr} {es : List (Nm × Ent)} {D : DataW Nat}
theorem find_down (h : At w p S mb cr es D) (hd : S.down = true) (s : ByteArray) :
    Calls Try.prog 33 #[.pointer (some ⟨p, 0, none⟩), .string s] w fun e w' => e = .returned (.tuple #[.pointer none, (.iface 52 (.int .i64 15))]) ∧ w = w' := by
  have c4 : w.cell? ⟨p, 4, none⟩ = some (.bool true) := by rw [← hd]; exact h.blk.cell 4
  clear h hd
  go_enter Try.func33, Try.ntmps33
  go_wp2
  go_ret2
  exact ⟨rfl, rfl⟩
theorem find_none (h : At w p S mb cr es D) (hd : S.down = false) (s : ByteArray) (hs : s.size ≤ maxLen) (hl : look s.data.toList es = none) :
    Calls Try.prog 33 #[.pointer (some ⟨p, 0, none⟩), .string s] w fun e w' => e = .returned (.tuple #[.pointer none, (.iface 52 (.int .i64 5))]) ∧ w = w' := by
  have c4 : w.cell? ⟨p, 4, none⟩ = some (.bool false) := by rw [← hd]; exact h.blk.cell 4
  have c0 : w.cell? ⟨p, 0, none⟩ = some (.map (some mb)) := h.blk.cell 0
  have hr := h.missed hs hl (zeroF w)
  clear h hd hl
  go_enter Try.func33, Try.ntmps33
  go_wp2
  go_ret2
  exact ⟨rfl, rfl⟩
theorem find_some (h : At w p S mb cr es D) (hd : S.down = false) (s : ByteArray) (hs : s.size ≤ maxLen) {e : Ent} (hl : look s.data.toList es = some e) :
    Calls Try.prog 33 #[.pointer (some ⟨p, 0, none⟩), .string s] w fun x w' => x = .returned (.tuple #[.pointer (some ⟨e.fb, 0, none⟩), .nilIface]) ∧ w = w' := by
  have c4 : w.cell? ⟨p, 4, none⟩ = some (.bool false) := by rw [← hd]; exact h.blk.cell 4
  have c0 : w.cell? ⟨p, 0, none⟩ = some (.map (some mb)) := h.blk.cell 0
  have hr := h.found hs hl (zeroF w)
  clear h hd hl
  go_enter Try.func33, Try.ntmps33
  go_wp2
  go_ret2
  exact ⟨rfl, rfl⟩
end
end Go.Proofs.Ytiaaadeenbjciaa.Disk
