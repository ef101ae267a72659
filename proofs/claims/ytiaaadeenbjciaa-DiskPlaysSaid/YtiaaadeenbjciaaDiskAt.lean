/- The disk in memory: its block, its map of files, each file's block and bytes; what of it stays while other blocks are written. -/
import Derived.Test.YtiaaadeenbjciaaDiskMath
import Derived.Test.YtiaaadeenbjciaaChecked
import Derived.Maps.RangeWalk
import Derived.Sort.KeysCollected
import Derived.Lib.Hide
import Derived.WalkKit
namespace Go.Proofs.Ytiaaadeenbjciaa.Disk
open Go.Proofs.Ytiaaadeenbjciaa.Mem
open Go.ChangeShapes Go.WideShapes Go.ChangeAt Go.RowKit
open Go.Maps (Keyed)
set_option linter.unusedVariables false

/- Block g is a row of just these cells, of element type t, and none of them is marked. -/
def Blk (w : World) (g : Nat) (t : TypeId) (cs : Array Value) : Prop := w.heap[g]? = some (.cells cs t (0, 0))
section
variable {w w' : World} {g : Nat} {t : TypeId} {cs : Array Value}
theorem Blk.lt (h : Blk w g t cs) : g < w.heap.size := (Array.getElem?_eq_some_iff.1 (show w.heap[g]? = some _ from h)).1
theorem Blk.cell (h : Blk w g t cs) (i : Nat) : w.cell? ⟨g, i, none⟩ = cs[i]? := cell_of_row _ _ i _ _ _ h
theorem Blk.frozen (h : Blk w g t cs) (i : Nat) : w.frozen? ⟨g, i, none⟩ = false := by
  have e : w.heap[g]? = some (.cells cs t (0, 0)) := h
  simp [World.frozen?, e]
theorem Blk.new (w : World) (t : TypeId) (cs : Array Value) : Blk (w.alloc (.cells cs t)) w.heap.size t cs := by
  show (w.alloc _).heap[_]? = _
  exact heap_alloc_new w _
theorem Blk.set_ (h : Blk w g t cs) (i : Nat) (u : Value) : Blk (w.setCell ⟨g, i, none⟩ u) g t (cs.setIfInBounds i u) := by
  have e : w.heap[g]? = some (.cells cs t (0, 0)) := h
  show (w.setCell _ _).heap[g]? = _
  simp [World.setCell, Array.getElem?_modify, e]
theorem Blk.but {T : Nat → Prop} (h : Blk w g t cs) (hb : But T w w') (hg : ¬ T g) : Blk w' g t cs := by
  show w'.heap[g]? = _
  rw [hb.block g h.lt hg]; exact h
/- Rows of two element types are two blocks. -/
theorem Blk.ne_ {g' : Nat} {t' : TypeId} {cs' : Array Value} (h : Blk w g t cs) (h' : Blk w g' t' cs') (hne : t ≠ t') : g ≠ g' := by
  intro e
  have e1 : w.heap[g]? = some (.cells cs t (0, 0)) := h
  have e2 : w.heap[g]? = some (.cells cs' t' (0, 0)) := by rw [e]; exact h'
  rw [e1] at e2
  simp only [Option.some.injEq, Obj.cells.injEq] at e2
  exact hne e2.2.1
theorem own_blk_ne {base : Nat} {e : TypeId} {size n : Nat} {v : Value} {xs : List Value} (h : w.ownsRow base e size v n xs) (hg : Blk w g t cs) (hne : e ≠ t) : v.ownBlock ≠ some g := by
  intro hv
  rcases h.2 with ⟨h1, _⟩ | ⟨b, cap, cur, h1, _, h3, _⟩
  · rw [h1] at hv; cases hv
  · rw [h1] at hv
    have hb : b = g := by simpa [Value.ownBlock] using hv
    exact (show Blk w b e cur from h3).ne_ hg hne hb
theorem map_blk_ne {H : Type} {P : Program} {k : TypeId} {R : Value → Option (DataW H × List MemPlace)} {b n : Nat} {D : DataW H} (h : w.ownsMap P k R b n D) (hg : Blk w g t cs) : b ≠ g := by
  rintro rfl
  obtain ⟨es, clock, hb, _⟩ := h
  unfold Blk at hg
  rw [hg] at hb
  cases hb
theorem map_own_ne {H : Type} {P : Program} {k : TypeId} {R : Value → Option (DataW H × List MemPlace)} {b n : Nat} {D : DataW H} {base : Nat} {e : TypeId} {size m : Nat} {v : Value} {xs : List Value} (h : w.ownsMap P k R b n D) (ho : w.ownsRow base e size v m xs) : v.ownBlock ≠ some b := by
  rcases ho.2 with ⟨rfl, _⟩ | ⟨g', cap, cur, rfl, _, hh, _⟩
  · simp [Value.ownBlock]
  · intro he
    have : g' = b := by simpa [Value.ownBlock] using he
    subst this
    exact map_blk_ne h (g := g') hh rfl
end
theorem but_set (w : World) (p i : Nat) (u : Value) : But (fun k => k = p) w (w.setCell ⟨p, i, none⟩ u) := (But.refl (fun k => k = p) w).setCell (p := ⟨p, i, none⟩) rfl u
theorem ownsMap_but {H : Type} {P : Program} {k : TypeId} {R : Value → Option (DataW H × List MemPlace)} {w w' : World} {b n : Nat} {D : DataW H} {T : Nat → Prop} (h : w.ownsMap P k R b n D) (hb : But T w w') (hg : ¬ T b) : w'.ownsMap P k R b n D := by
  have hlt := h.lt
  obtain ⟨es, clock, hh, r⟩ := h
  exact ⟨es, clock, (hb.block b hlt hg).trans hh, r⟩
theorem ownsMap_tight {H : Type} {P : Program} {k : TypeId} {R : Value → Option (DataW H × List MemPlace)} {w : World} {b n : Nat} {D : DataW H} (h : w.ownsMap P k R b n D) : w.ownsMap P k R b (Maps.size D) D := by
  obtain ⟨es, clock, hh, F, hs, rfl⟩ := h
  exact ⟨es, clock, hh, F, by simp [Maps.size, length_sorted], rfl⟩

/- How a pointer to a file reads in the map: as its block's number. -/
def ptrElem : Value → Option (DataW Nat × List MemPlace)
  | .pointer (some ⟨b, 0, none⟩) => some (.held b, [])
  | .pointer none => some (.nil, [])
  | _ => none
def ptrOf : Option Nat → Value
  | some b => .pointer (some ⟨b, 0, none⟩)
  | none => .pointer none
theorem ptrElem_inv {v : Value} {z : DataW Nat × List MemPlace} (h : ptrElem v = some z) : ∃ c, v = ptrOf c ∧ z = (match c with | some b => .held b | none => .nil, []) := by
  unfold ptrElem at h
  split at h
  · next b => injection h with h; exact ⟨some b, rfl, h.symm⟩
  · injection h with h; exact ⟨none, rfl, h.symm⟩
  · cases h
theorem law : Keyed Try.prog 9 := Maps.string_keyed Try.underlying9

/- A file in memory: its block, the slice there, its bytes, how many are synced. -/
structure Ent where
  fb : Nat
  v : Value
  bytes : List Int
  synced : Nat
def Ent.file (e : Ent) : File := ⟨e.bytes, e.synced⟩
def EntAt (w : World) (e : Ent) : Prop := Blk w e.fb 70 #[e.v, .int .i64 e.synced] ∧ w.ownsRow 0 5 1 e.v e.bytes.length (cellsOf e.bytes)
def Two (x y : Ent) : Prop := x.fb ≠ y.fb ∧ ∀ k, x.v.ownBlock = some k → y.v.ownBlock ≠ some k
theorem Two.symm {x y : Ent} (h : Two x y) : Two y x := ⟨h.1.symm, fun k hk hx => h.2 k hx hk⟩
def Sep (es : List (Nm × Ent)) : Prop := es.Pairwise fun x y => Two x.2 y.2
/- What the map tells. -/
structure Tells (D : DataW Nat) (es : List (Nm × Ent)) : Prop where
  has : ∀ x, Maps.has D (.string x) = (look x es).isSome
  key : ∀ x e, look x es = some e → ∀ z, D.atKey (.string x) z = .held e.fb
  size : Maps.size D = es.length
def PlanAt (w : World) (plan : Option (Int × Int)) (cr : Option Addr) : Prop :=
  match plan with
  | none => cr = none
  | some (l, k) => ∃ b, cr = some ⟨b, 0, none⟩ ∧ Blk w b 74 #[.int .i64 l, .int .i64 k]
/- The blocks of a disk. -/
def foot (p mb : Nat) (cr : Option Addr) (es : List (Nm × Ent)) (k : Nat) : Prop :=
  k = p ∨ k = mb ∨ (∃ a, cr = some a ∧ a.block = k) ∨ ∃ x ∈ es, k = x.2.fb ∨ x.2.v.ownBlock = some k
structure At (w : World) (p : Nat) (S : St) (mb : Nat) (cr : Option Addr) (es : List (Nm × Ent)) (D : DataW Nat) : Prop where
  blk : Blk w p 65 #[.map (some mb), .int .i64 S.cap, .int .i64 S.effects, .pointer cr, .bool S.down]
  map : w.ownsMap Try.prog 9 ptrElem mb es.length D
  tells : Tells D es
  plan : S.down = false → PlanAt w S.plan cr
  crlt : ∀ a, cr = some a → a.block < w.heap.size
  files : mapv Ent.file es = S.files
  ents : ∀ x ∈ es, EntAt w x.2
  sep : Sep es
  good : Good S
def Has (w : World) (p : Nat) (S : St) (F : Nat → Prop) : Prop :=
  ∃ mb cr es D, At w p S mb cr es D ∧ (∀ k, foot p mb cr es k → F k) ∧ ∀ k, F k → k < w.heap.size
def grow (F : Nat → Prop) (w w' : World) (k : Nat) : Prop := F k ∨ (w.heap.size ≤ k ∧ k < w'.heap.size)
section
variable {w w' : World} {p mb : Nat} {S : St} {cr : Option Addr} {es : List (Nm × Ent)} {D : DataW Nat}
theorem At.apart (h : At w p S mb cr es D) : Apart es := apart_of_mapv (h.files.symm ▸ h.good.apart)
theorem At.look (h : At w p S mb cr es D) (n : Nm) : look n S.files = (look n es).map Ent.file := by rw [← h.files, look_mapv]
theorem At.ent (h : At w p S mb cr es D) {x : Nm × Ent} (hx : x ∈ es) : x.2.synced ≤ x.2.bytes.length ∧ Bytes x.2.bytes := h.good.synced (x.1, x.2.file) (by rw [← h.files]; exact List.mem_map.2 ⟨x, hx, rfl⟩)
theorem EntAt.but {T : Nat → Prop} {e : Ent} (h : EntAt w e) (hb : But T w w') (h1 : ¬ T e.fb) (h2 : ∀ k, e.v.ownBlock = some k → ¬ T k) : EntAt w' e := ⟨h.1.but hb h1, ownsRow_but h.2 hb h2⟩
theorem PlanAt.but {T : Nat → Prop} {pl : Option (Int × Int)} (h : PlanAt w pl cr) (hb : But T w w') (h1 : ∀ a, cr = some a → ¬ T a.block) : PlanAt w' pl cr := by
  rcases pl with _ | ⟨l, k⟩
  · exact h
  · obtain ⟨b, rfl, h2⟩ := h
    exact ⟨b, rfl, h2.but hb (h1 _ rfl)⟩
theorem At.but {T : Nat → Prop} (h : At w p S mb cr es D) (hb : But T w w') (hT : ∀ k, foot p mb cr es k → ¬ T k) : At w' p S mb cr es D where
  blk := h.blk.but hb (hT p (.inl rfl))
  map := ownsMap_but h.map hb (hT mb (.inr (.inl rfl)))
  tells := h.tells
  plan := fun hd => (h.plan hd).but hb (fun a ha => hT _ (.inr (.inr (.inl ⟨a, ha, rfl⟩))))
  crlt := fun a ha => Nat.lt_of_lt_of_le (h.crlt a ha) hb.size
  files := h.files
  ents := fun x hx => (h.ents x hx).but hb (hT _ (.inr (.inr (.inr ⟨x, hx, .inl rfl⟩)))) (fun k hk => hT _ (.inr (.inr (.inr ⟨x, hx, .inr hk⟩))))
  sep := h.sep
  good := h.good
theorem At.lt (h : At w p S mb cr es D) : ∀ k, foot p mb cr es k → k < w.heap.size := by
  rintro k (rfl | rfl | ⟨a, ha, rfl⟩ | ⟨x, hx, rfl | hk⟩)
  · exact h.blk.lt
  · exact h.map.lt
  · exact h.crlt a ha
  · exact (h.ents x hx).1.lt
  · exact ((h.ents x hx).2.lt k hk).2
theorem At.has (h : At w p S mb cr es D) : Has w p S (foot p mb cr es) := ⟨mb, cr, es, D, h, fun _ hk => hk, h.lt⟩
theorem Has.but {F T : Nat → Prop} (h : Has w p S F) (hb : But T w w') (hT : ∀ k, F k → ¬ T k) : Has w' p S F := by
  obtain ⟨mb, cr, es, D, h1, h2, h3⟩ := h
  exact ⟨mb, cr, es, D, h1.but hb (fun k hk => hT k (h2 k hk)), h2, fun k hk => Nat.lt_of_lt_of_le (h3 k hk) hb.size⟩
theorem Has.mono {F F' : Nat → Prop} (h : Has w p S F) (hF : ∀ k, F k → F' k) (hl : ∀ k, F' k → k < w.heap.size) : Has w p S F' := by
  obtain ⟨mb, cr, es, D, h1, h2, h3⟩ := h
  exact ⟨mb, cr, es, D, h1, fun k hk => hF k (h2 k hk), hl⟩
theorem Has.grow {F : Nat → Prop} (h : Has w' p S F) {G : Nat → Prop} (hb : But G w w') (hG : ∀ k, G k → k < w.heap.size) (hF : ∀ k, F k → G k ∨ w.heap.size ≤ k) : Has w' p S (grow G w w') := by
  obtain ⟨mb, cr, es, D, h1, h2, h3⟩ := h
  refine ⟨mb, cr, es, D, h1, fun k hk => ?_, fun k hk => ?_⟩
  · rcases hF k (h2 k hk) with h4 | h4
    · exact .inl h4
    · exact .inr ⟨h4, h1.lt k hk⟩
  · rcases hk with h4 | h4
    · exact Nat.lt_of_lt_of_le (hG k h4) hb.size
    · exact h4.2
theorem At.hasGrow {F : Nat → Prop} (h : At w' p S mb cr es D) (hb : But F w w') (hlt : ∀ k, F k → k < w.heap.size) (hF : ∀ k, foot p mb cr es k → F k ∨ w.heap.size ≤ k) : Has w' p S (Disk.grow F w w') := h.has.grow hb hlt hF
/- A block of another kind is none of the map's and the files'. -/
theorem At.other (h : At w p S mb cr es D) {g : Nat} {t : TypeId} {cs : Array Value} (hg : Blk w g t cs) (h1 : t ≠ 70) (h2 : t ≠ 5) :
    mb ≠ g ∧ ∀ x ∈ es, x.2.fb ≠ g ∧ x.2.v.ownBlock ≠ some g :=
  ⟨map_blk_ne h.map hg, fun x hx => ⟨(h.ents x hx).1.ne_ hg h1.symm, own_blk_ne (h.ents x hx).2 hg h2.symm⟩⟩
/- The disk's own block, or its plan's, is written. -/
theorem At.disk {S' : St} {cr' : Option Addr} (h : At w p S mb cr es D) {T : Nat → Prop} (hb : But T w w') (hT : ∀ g, T g → ∃ t cs, Blk w g t cs ∧ t ≠ 70 ∧ t ≠ 5) (hfiles : S'.files = S.files)
    (hblk : Blk w' p 65 #[.map (some mb), .int .i64 S'.cap, .int .i64 S'.effects, .pointer cr', .bool S'.down]) (hplan : S'.down = false → PlanAt w' S'.plan cr') (hcr : ∀ a, cr' = some a → a.block < w'.heap.size)
    (hgp : ∀ l k, S'.plan = some (l, k) → 0 ≤ l ∧ l ≤ 9223372036854775807 ∧ 0 ≤ k ∧ k ≤ 9223372036854775807) : At w' p S' mb cr' es D where
  blk := hblk
  map := ownsMap_but h.map hb (fun ht => by obtain ⟨t, cs, h1, h2, h3⟩ := hT _ ht; exact (h.other h1 h2 h3).1 rfl)
  tells := h.tells
  plan := hplan
  crlt := hcr
  files := h.files.trans hfiles.symm
  ents := fun x hx => (h.ents x hx).but hb (fun ht => by obtain ⟨t, cs, h1, h2, h3⟩ := hT _ ht; exact ((h.other h1 h2 h3).2 x hx).1 rfl) (fun k hk ht => by obtain ⟨t, cs, h1, h2, h3⟩ := hT _ ht; exact ((h.other h1 h2 h3).2 x hx).2 hk)
  sep := h.sep
  good := ⟨hfiles ▸ h.good.apart, hfiles ▸ h.good.synced, hgp⟩
/- The look-up of a name. -/
theorem At.found (h : At w p S mb cr es D) {s : ByteArray} (hs : s.size ≤ maxLen) {e : Ent} (hl : Disk.look s.data.toList es = some e) (hz : (zeroValue 66).run Try.prog w = .ok (.pointer none) w) :
    (Instr.lookup 62 (.map (some mb)) (.string s) true).run Try.prog w = .ok (.tuple #[.pointer (some ⟨e.fb, 0, none⟩), .bool true]) w := by
  obtain ⟨v, ps, hrun, hv⟩ := h.map.look_ok law Try.underlying62 hz (zd := .nil) (zp := []) rfl (WideMaps.keyOf_string_mk Try.underlying9 hs)
  rw [h.tells.key _ _ hl] at hv
  obtain ⟨c, rfl, hc⟩ := ptrElem_inv hv
  rw [h.tells.has, hl] at hrun
  rcases c with _ | b
  · cases hc
  · simp only [Prod.mk.injEq, DataW.held.injEq] at hc
    rw [hc.1]
    exact hrun
theorem At.missed (h : At w p S mb cr es D) {s : ByteArray} (hs : s.size ≤ maxLen) (hl : Disk.look s.data.toList es = none) (hz : (zeroValue 66).run Try.prog w = .ok (.pointer none) w) :
    (Instr.lookup 62 (.map (some mb)) (.string s) true).run Try.prog w = .ok (.tuple #[.pointer none, .bool false]) w := by
  obtain ⟨v, ps, hrun, hv⟩ := h.map.look_ok law Try.underlying62 hz (zd := .nil) (zp := []) rfl (WideMaps.keyOf_string_mk Try.underlying9 hs)
  have hn : Maps.has D (.string s.data.toList) = false := by rw [h.tells.has, hl]; rfl
  rw [Maps.atKey_of_not_has hn] at hv
  obtain ⟨c, rfl, hc⟩ := ptrElem_inv hv
  rw [hn] at hrun
  rcases c with _ | b
  · exact hrun
  · cases hc
end
theorem zeroF (w : World) : (zeroValue 66).run Try.prog w = .ok (.pointer none) w := by kernel_rfl
end Go.Proofs.Ytiaaadeenbjciaa.Disk
