/- A map of numbers by items, as a count of each item. -/
import Derived.Test.YtdkknjgjogekiaaExpHead
import Derived.Maps.OwnSet
import Derived.DeepKeys4
namespace Go.Proofs.Ytdkknjgjogekiaa.Exp
open Go.Proofs.Ytdkknjgjogekiaa.Mem
open Go.ChangeShapes Go.WideShapes Go.ChangeAt Go.RowKit
set_option linter.unusedVariables false
set_option linter.unusedSimpArgs false
structure Ok (x : It) : Prop where
  time : x.time < 18446744073709551616
  key : x.key.size ≤ maxLen
theorem laidOut0 : laidOutB Try.prog = true := by kernel_rfl
theorem law : Maps.Keyed Try.prog 29 := Maps.Keyed.of_law (deep_law_laid laidOut0 (m := 2) (by omega) (of_decide_eq_true (by kernel_rfl)) (by kernel_rfl) (by kernel_rfl))
theorem key_some {x : It} (h : Ok x) : ∃ L, keyOf Try.prog 29 (ival x) = some L := by
  have h1 : Try.prog.keyType 29 = true := by kernel_rfl
  have h2 : (Value.agg #[Value.int .u64 (x.time : Int), .string x.key]).formed Try.prog 29 = true := by kernel_rfl
  have hw : (Lit.int .u64 (x.time : Int)).wf = true := by
    have := h.time
    simp [Lit.wf, IntKind.min, IntKind.max, IntKind.signed, IntKind.bits]
    omega
  have c1 : Try.prog.cellsOf 29 = 2 := by kernel_rfl
  have c2 : Try.prog.cellsOf 27 = 1 := by kernel_rfl
  have c3 : Try.prog.cellsOf 9 = 1 := by kernel_rfl
  have hk := h.key
  obtain ⟨N, hN⟩ : ∃ N, Try.prog.types.size + 1 = N + 1 + 1 := ⟨Try.prog.types.size - 1, by
    have : 0 < Try.prog.types.size := of_decide_eq_true (by kernel_rfl)
    omega⟩
  have hl : ∃ ls, Try.prog.keyLits (Try.prog.types.size + 1) 29 [.int .u64 (x.time : Int), .string x.key] = some ls := by
    rw [hN]
    simp [c1, c2, c3, Program.keyLits, Try.underlying29, Try.underlying27, Try.underlying9, hw, hk]
  obtain ⟨ls, hl⟩ := hl
  refine ⟨.string (keyBytes ls), ?_⟩
  unfold keyOf ival
  rw [Try.underlying29]
  simp only [h1, h2, Bool.and_self, if_true]
  show (Try.prog.keyLits (Try.prog.types.size + 1) 29 [.int .u64 (x.time : Int), .string x.key]).map _ = _
  rw [hl]
  rfl
noncomputable def kl (x : It) : Lit := (keyOf Try.prog 29 (ival x)).getD (.bool true)
theorem kl_is {x : It} (h : Ok x) : keyOf Try.prog 29 (.agg #[.int .u64 (x.time : Int), .string x.key]) = some (kl x) := by
  obtain ⟨L, hL⟩ := key_some h
  unfold kl
  rw [hL]
  exact hL
theorem kl_ne {x y : It} (hx : Ok x) (hy : Ok y) (h : x ≠ y) : kl x ≠ kl y := by
  intro e
  have h1 := kl_is hx
  have h2 := kl_is hy
  rw [e] at h1
  have h3 := law.inj h1 h2
  simp at h3
  apply h
  obtain ⟨t, k⟩ := x
  obtain ⟨t', k'⟩ := y
  simp at h3
  obtain ⟨e1, e2⟩ := h3
  subst e2
  rw [show t = t' by omega]
def Cnt (D : DataW Unit) (f : It → Nat) : Prop := ∀ x, Ok x → D.atKey (kl x) (.lit (.int .i64 0)) = .lit (.int .i64 (f x : Int))
theorem cnt_new : Cnt (.map []) (fun _ => 0) := fun x _ => rfl
theorem Cnt.put {D : DataW Unit} {f g : It → Nat} (h : Cnt D f) (hm : Maps.IsMap D) {x : It} (hx : Ok x) {n : Nat} (hg : ∀ y, g y = if y = x then n else f y) : Cnt (D.put (kl x) (.lit (.int .i64 (n : Int)))) g := by
  intro y hy
  by_cases e : y = x
  · subst e
    rw [Maps.atKey_put_same hm (law.key (kl_is hx)), hg, if_pos rfl]
  · rw [Maps.atKey_put_other (kl_ne hy hx e), hg, if_neg e]
    exact h y hy
theorem zeroI (w : World) : (zeroValue 3).run Try.prog w = .ok (.int .i64 0) w := by kernel_rfl
/- The map in memory. -/
def Had (w : World) (mb k : Nat) (f : It → Nat) : Prop := ∃ D, w.ownsMap Try.prog 29 (plainElem Try.prog 3) mb k D ∧ Cnt D f
section
variable {w w' : World} {mb k : Nat} {f g : It → Nat}
theorem Had.look (h : Had w mb k f) {x : It} (hx : Ok x) : (Instr.lookup 44 (.map (some mb)) (.agg #[.int .u64 (x.time : Int), .string x.key]) false).run Try.prog w = .ok (.int .i64 (f x : Int)) w := by
  obtain ⟨D, hm, hc⟩ := h
  obtain ⟨c, hrun, hat, _⟩ := hm.lookup_int law Try.underlying44 Try.underlying3 (zeroI w) (kl_is hx)
  rw [hc x hx] at hat
  injection hat with hat
  injection hat with _ hat
  rw [hrun, ← hat]
theorem Had.put (h : Had w mb k f) {x : It} (hx : Ok x) {n : Nat} (hn : n ≤ 1000000) (hk : k < 1000000) (hg : ∀ y, g y = if y = x then n else f y) :
    ∃ w', (Instr.mapUpdate 44 (.map (some mb)) (.agg #[.int .u64 (x.time : Int), .string x.key]) (.int .i64 (n : Int))).run Try.prog w = .ok () w' ∧ Had w' mb (k + 1) g ∧ But (fun j => j = mb) w w' := by
  obtain ⟨D, hm, hc⟩ := h
  obtain ⟨w', h1, h2, h3⟩ := hm.update law Try.underlying44 (by unfold maxLen; omega) (kl_is hx) (plainElem_int Try.underlying3 (a := (n : Int)) (by simp [Lit.wf, IntKind.min, IntKind.max, IntKind.signed, IntKind.bits]; omega))
  exact ⟨w', h1, ⟨_, h2, hc.put hm.isMap hx hg⟩, (But.of_grown h3).mono (fun i _ e => Option.some.inj e)⟩
theorem Had.but {F : Nat → Prop} (h : Had w mb k f) (hb : But F w w') (hF : ¬ F mb) : Had w' mb k f := by
  obtain ⟨D, hm, hc⟩ := h
  refine ⟨D, ?_, hc⟩
  have hlt := hm.lt
  obtain ⟨es, clock, hh, r⟩ := hm
  exact ⟨es, clock, (hb.block mb hlt hF).trans hh, r⟩
theorem Had.lt (h : Had w mb k f) : mb < w.heap.size := by
  obtain ⟨D, hm, hc⟩ := h
  exact hm.lt
theorem Had.ne {b : Nat} {t : TypeId} {cs : Array Value} (h : Had w mb k f) (hb : Blk w b t cs) : mb ≠ b := by
  rintro rfl
  obtain ⟨D, ⟨es, clock, hh, r⟩, hc⟩ := h
  have h2 : w.heap[mb]? = some (.cells cs t (0, 0)) := hb
  rw [hh] at h2
  cases h2
theorem had_new (w : World) : Had (w.alloc (.map #[] 0)) w.heap.size 0 (fun _ => 0) := ⟨_, World.ownsMap_made w _ _ _, cnt_new⟩
end
end Go.Proofs.Ytdkknjgjogekiaa.Exp
