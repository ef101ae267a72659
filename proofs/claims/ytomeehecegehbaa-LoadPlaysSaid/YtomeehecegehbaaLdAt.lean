/- Loads in memory: their block, their map; what the map tells. -/
import Derived.Test.YtomeehecegehbaaLdKeys
namespace Go.Proofs.Ytomeehecegehbaa.Ld
open Go.Proofs.Ytomeehecegehbaa.Mem
open Go.ChangeShapes Go.WideShapes Go.ChangeAt Go.RowKit
open Go.ChangeMaps Go.MapKept
set_option linter.unusedVariables false
set_option linter.unusedSimpArgs false
abbrev Pr := Nat × Nat
def cx (p : Pr) : Value := .complex .f64 (fl p.1) (fl p.2)
def cxElem : Value → Option (DataW Pr × List MemPlace)
  | .complex .f64 a b => some (.held (a, b), [])
  | _ => none
theorem cxElem_is (a b : Nat) : cxElem (.complex .f64 a b) = some (.held (a, b), []) := rfl
theorem cxElem_inv {v : Value} {y : DataW Pr × List MemPlace} (h : cxElem v = some y) : ∃ c : Nat × Nat, v = .complex .f64 c.1 c.2 := by
  unfold cxElem at h
  split at h
  · exact ⟨(_, _), rfl⟩
  · cases h
def I64 (x : Int) : Prop := -9223372036854775808 ≤ x ∧ x ≤ 9223372036854775807
theorem wf64 {s : Int} (h : I64 s) : (Lit.int .i64 s).wf = true := by
  unfold I64 at h
  simp [Lit.wf, IntKind.min, IntKind.max, IntKind.signed, IntKind.bits]; omega
theorem key64 {s : Int} (h : I64 s) : keyOf Try.prog 3 (.int .i64 s) = some (.int .i64 s) := Maps.keyOf_int_mk Try.underlying3 (wf64 h)
structure Tells (D : DataW Pr) (f : Int → Pr) : Prop where
  has : ∀ s : Int, Maps.has D (.int .i64 s) = decide (f s ≠ (0, 0))
  key : ∀ s : Int, f s ≠ (0, 0) → ∀ z, D.atKey (.int .i64 s) z = .held (fl (f s).1, fl (f s).2)
  few : ∀ s : Int, (f s).1 ≤ 1099511627776 ∧ (f s).2 ≤ 1099511627776
theorem lit_ne {a b : Int} (h : a ≠ b) : (Lit.int .i64 a) ≠ .int .i64 b := by
  intro he
  injection he with _ he
  omega
def upd (f : Int → Pr) (k : Int) (p : Pr) : Int → Pr := fun s => if s = k then p else f s
theorem upd_same (f : Int → Pr) (k : Int) (p : Pr) : upd f k p k = p := if_pos rfl
theorem upd_other (f : Int → Pr) {k s : Int} (p : Pr) (h : s ≠ k) : upd f k p s = f s := if_neg h
theorem tells_new : Tells (.map []) (fun _ => (0, 0)) := ⟨fun s => rfl, fun s h => absurd rfl h, fun s => ⟨by simp, by simp⟩⟩
theorem Tells.put {D : DataW Pr} {f : Int → Pr} (h : Tells D f) (hm : Maps.IsMap D) (k : Int) (p : Pr) (hp : p ≠ (0, 0)) (hl : p.1 ≤ 1099511627776 ∧ p.2 ≤ 1099511627776) : Tells (D.put (.int .i64 k) (.held (fl p.1, fl p.2))) (upd f k p) where
  has s := by
    by_cases hs : s = k
    · rw [hs, upd_same, Maps.has_put_same (k := .int .i64 k) hm trivial]
      exact (decide_eq_true hp).symm
    · rw [upd_other f p hs, Maps.has_put_other (lit_ne hs), h.has]
  key s hy z := by
    by_cases hs : s = k
    · rw [hs, upd_same, Maps.atKey_put_same (k := .int .i64 k) hm trivial]
    · rw [upd_other f p hs] at hy ⊢
      rw [Maps.atKey_put_other (lit_ne hs), h.key s hy]
  few s := by
    by_cases hs : s = k
    · rw [hs, upd_same]; exact hl
    · rw [upd_other f p hs]; exact h.few s
theorem Tells.del {D : DataW Pr} {f : Int → Pr} (h : Tells D f) (k : Int) : Tells (D.del (.int .i64 k)) (upd f k (0, 0)) where
  has s := by
    by_cases hs : s = k
    · rw [hs, upd_same, Maps.has_del_same]; rfl
    · rw [upd_other f _ hs, Maps.has_del_other (lit_ne hs), h.has]
  key s hy z := by
    by_cases hs : s = k
    · rw [hs, upd_same] at hy; exact absurd rfl hy
    · rw [upd_other f _ hs] at hy ⊢
      rw [Maps.atKey_del_other (lit_ne hs), h.key s hy]
  few s := by
    by_cases hs : s = k
    · rw [hs, upd_same]; exact ⟨by simp, by simp⟩
    · rw [upd_other f _ hs]; exact h.few s
/- Loads' block is p, their map's mb; they are N at most. -/
structure LAt (w : World) (p mb : Nat) (N : Nat) (f : Int → Pr) : Prop where
  blk : Blk w p 44 #[.map (some mb)]
  map : ∃ n D, w.ownsMap Try.prog 3 cxElem mb n D ∧ Maps.size D ≤ N ∧ Tells D f
theorem ownsMap_but {H : Type} {P : Program} {k : TypeId} {R : Value → Option (DataW H × List MemPlace)} {w w' : World} {b n : Nat} {D : DataW H} {T : Nat → Prop} (h : w.ownsMap P k R b n D) (hb : But T w w') (hg : ¬ T b) : w'.ownsMap P k R b n D := by
  have hlt := h.lt
  obtain ⟨es, clock, hh, r⟩ := h
  exact ⟨es, clock, (hb.block b hlt hg).trans hh, r⟩
theorem ownsMap_tight {H : Type} {P : Program} {k : TypeId} {R : Value → Option (DataW H × List MemPlace)} {w : World} {b n : Nat} {D : DataW H} (h : w.ownsMap P k R b n D) : w.ownsMap P k R b (Maps.size D) D := by
  obtain ⟨es, clock, hh, F, hs, rfl⟩ := h
  exact ⟨es, clock, hh, F, by simp [Maps.size, length_sorted], rfl⟩
theorem turned_but {w w' : World} {b : Nat} (h : w.mapTurned w' b) : But (fun k => k = b) w w' := by
  obtain ⟨es, clock, es', clock', hb, rfl⟩ := h
  exact ⟨rfl, rfl, rfl, by simp [setBlock], fun i _ hi => heap_setBlock_other hb _ hi⟩
section
variable {w w' : World} {p mb N : Nat} {f : Int → Pr}
theorem LAt.but {F : Nat → Prop} (h : LAt w p mb N f) (hb : But F w w') (h1 : ¬ F p) (h2 : ¬ F mb) : LAt w' p mb N f := by
  obtain ⟨n, D, hm, hn, ht⟩ := h.map
  exact ⟨h.blk.but hb h1, ⟨n, D, ownsMap_but hm hb h2, hn, ht⟩⟩
theorem LAt.lt (h : LAt w p mb N f) : p < w.heap.size ∧ mb < w.heap.size := by
  obtain ⟨n, D, hm, hn, ht⟩ := h.map
  exact ⟨h.blk.lt, hm.lt⟩
theorem LAt.new (h : LAt w p mb N f) (hb : But (fun _ => False) w w') : LAt w' p mb N f := h.but hb (fun h => h) (fun h => h)
theorem LAt.more (h : LAt w p mb N f) {M : Nat} (hM : N ≤ M) : LAt w p mb M f := by
  obtain ⟨n, D, hm, hn, ht⟩ := h.map
  exact ⟨h.blk, n, D, hm, Nat.le_trans hn hM, ht⟩
theorem LAt.few (h : LAt w p mb N f) (s : Int) : (f s).1 ≤ 1099511627776 ∧ (f s).2 ≤ 1099511627776 := by
  obtain ⟨n, D, hm, hn, ht⟩ := h.map
  exact ht.few s
theorem LAt.ne (h : LAt w p mb N f) {g : Nat} {t : TypeId} {cs : Array Value} (hg : Blk w g t cs) : mb ≠ g := by
  rintro rfl
  obtain ⟨n, D, ⟨es, clock, hh, r⟩, hn, ht⟩ := h.map
  have h2 : w.heap[mb]? = some (.cells cs t (0, 0)) := hg
  rw [hh] at h2
  cases h2
theorem LAt.cell (h : LAt w p mb N f) : w.cell? ⟨p, 0, none⟩ = some (.map (some mb)) := h.blk.cell 0
theorem zeroCx (w : World) : (zeroValue 34).run Try.prog w = .ok (.complex .f64 0 0) w := by kernel_rfl
theorem LAt.look (h : LAt w p mb N f) {s : Int} (hs : I64 s) :
    (Instr.lookup 42 (.map (some mb)) (.int .i64 s) false).run Try.prog w = .ok (.complex .f64 (fl (f s).1) (fl (f s).2)) w := by
  obtain ⟨n, D, hm, hn, ht⟩ := h.map
  obtain ⟨v, ps, hrun, hv⟩ := hm.lookup law Try.underlying42 (zeroCx w) (cxElem_is 0 0) (key64 hs)
  rw [hrun]
  have hz : ∀ {a b : Nat}, cxElem v = some (.held (a, b), ps) → v = .complex .f64 a b := by
    intro a b e
    unfold cxElem at e
    split at e
    · simp only [Option.some.injEq, Prod.mk.injEq, DataW.held.injEq] at e
      obtain ⟨⟨rfl, rfl⟩, _⟩ := e
      rfl
    · cases e
  by_cases h0 : f s = (0, 0)
  · rw [Maps.atKey_of_not_has (by rw [ht.has, h0]; rfl)] at hv
    rw [hz hv, h0, fl_zero]
  · rw [ht.key s h0] at hv
    rw [hz hv]
end
end Go.Proofs.Ytomeehecegehbaa.Ld
