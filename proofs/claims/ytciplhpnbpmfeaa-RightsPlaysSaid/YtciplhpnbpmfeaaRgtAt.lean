/- A table of tokens in memory: its block, its map; what the map tells. -/
import Derived.Test.YtciplhpnbpmfeaaRgtMath
import Derived.Test.YtciplhpnbpmfeaaBlk
import Derived.Test.YtciplhpnbpmfeaaErr
import Derived.Maps.OwnSet
import Derived.Deep.Slices
import Derived.Deep.Fields
namespace Go.Proofs.Ytciplhpnbpmfeaa.Rgt
open Go.Proofs.Ytciplhpnbpmfeaa.Mem
open Go.ChangeShapes Go.WideShapes Go.ChangeAt Go.RowKit
open Go.Maps (Keyed)
open Go.ChangeMaps Go.MapKept
set_option linter.unusedVariables false
set_option linter.unusedSimpArgs false
abbrev Tk := Int × Int
def tcells (r : Int) (k : Nat) : Array Value := #[.int .i64 r, .int .u64 (k : Int)]
def tokElem : Value → Option (DataW Tk × List MemPlace)
  | .agg ⟨[.int .i64 r, .int .u64 k]⟩ => some (.held (r, k), [])
  | _ => none
theorem tokElem_is (r : Int) (k : Nat) : tokElem (.agg (tcells r k)) = some (.held (r, (k : Int)), []) := rfl
theorem law : Keyed Try.prog 28 := Maps.int_keyed Try.underlying28
theorem wf32 {s : Nat} (h : s < 4294967296) : (Lit.int .u32 (s : Int)).wf = true := by
  simp [Lit.wf, IntKind.min, IntKind.max, IntKind.signed, IntKind.bits]; omega
theorem key32 {s : Nat} (h : s < 4294967296) : keyOf Try.prog 28 (.int .u32 (s : Int)) = some (.int .u32 (s : Int)) := Maps.keyOf_int_mk Try.underlying28 (wf32 h)
structure Tells (D : DataW Tk) (T : List Tok) : Prop where
  has : ∀ s : Nat, Maps.has D (.int .u32 (s : Int)) = (look s T).isSome
  key : ∀ (s : Nat) x, look s T = some x → ∀ z, D.atKey (.int .u32 (s : Int)) z = .held (x.r, (x.k : Int))
  size : Maps.size D = T.length
theorem lit_ne {a b : Nat} (h : a ≠ b) : (Lit.int .u32 (a : Int)) ≠ .int .u32 (b : Int) := by
  intro he
  injection he with _ he
  omega
theorem tells_new : Tells (.map []) [] := ⟨fun s => rfl, fun s x h => (by cases h), rfl⟩
theorem Tells.put {D : DataW Tk} {T : List Tok} (h : Tells D T) (hm : Maps.IsMap D) (ht : Maps.Tidy D) (hT : Ris T) (x : Tok) : Tells (D.put (.int .u32 (x.s : Int)) (.held (x.r, (x.k : Int)))) (put x T) where
  has s := by
    rw [look_put x hT]
    by_cases hs : s = x.s
    · rw [if_pos hs, hs, Maps.has_put_same (k := .int .u32 (x.s : Int)) hm trivial]; rfl
    · rw [if_neg hs, Maps.has_put_other (lit_ne hs), h.has]
  key s y hy z := by
    rw [look_put x hT] at hy
    by_cases hs : s = x.s
    · rw [if_pos hs] at hy
      injection hy with hy
      subst hy
      rw [hs, Maps.atKey_put_same (k := .int .u32 (x.s : Int)) hm trivial]
    · rw [if_neg hs] at hy
      rw [Maps.atKey_put_other (lit_ne hs), h.key s y hy]
  size := by
    rw [Maps.size_put ht, h.has, h.size, len_put x hT]
theorem Tells.del {D : DataW Tk} {T : List Tok} (h : Tells D T) (ht : Maps.Tidy D) (hT : Ris T) (s : Nat) : Tells (D.del (.int .u32 (s : Int))) (del s T) where
  has x := by
    rw [look_del hT]
    by_cases hs : x = s
    · rw [if_pos hs, hs, Maps.has_del_same]; rfl
    · rw [if_neg hs, Maps.has_del_other (lit_ne hs), h.has]
  key x y hy z := by
    rw [look_del hT] at hy
    by_cases hs : x = s
    · rw [if_pos hs] at hy; cases hy
    · rw [if_neg hs] at hy
      rw [Maps.atKey_del_other (lit_ne hs), h.key x y hy]
  size := by
    have h1 := Maps.size_del (k := .int .u32 (s : Int)) ht
    have h2 := len_del s T
    rw [h.has, h.size] at h1
    omega
/- A table's block is p, its map's mb. -/
structure RAt (w : World) (p mb : Nat) (T : List Tok) : Prop where
  blk : Blk w p 51 #[.map (some mb)]
  map : ∃ n D, w.ownsMap Try.prog 28 tokElem mb n D ∧ n ≤ 1000 ∧ Tells D T
  good : Good T
theorem ownsMap_but {H : Type} {P : Program} {k : TypeId} {R : Value → Option (DataW H × List MemPlace)} {w w' : World} {b n : Nat} {D : DataW H} {T : Nat → Prop} (h : w.ownsMap P k R b n D) (hb : But T w w') (hg : ¬ T b) : w'.ownsMap P k R b n D := by
  have hlt := h.lt
  obtain ⟨es, clock, hh, r⟩ := h
  exact ⟨es, clock, (hb.block b hlt hg).trans hh, r⟩
theorem ownsMap_tight {H : Type} {P : Program} {k : TypeId} {R : Value → Option (DataW H × List MemPlace)} {w : World} {b n : Nat} {D : DataW H} (h : w.ownsMap P k R b n D) : w.ownsMap P k R b (Maps.size D) D := by
  obtain ⟨es, clock, hh, F, hs, rfl⟩ := h
  exact ⟨es, clock, hh, F, by simp [Maps.size, length_sorted], rfl⟩
theorem turned_but {w w' : World} {b : Nat} (h : w.mapTurned w' b) : But (fun k => k = b) w w' := by
  obtain ⟨es, clock, es', clock', hb, rfl⟩ := h
  exact ⟨rfl, rfl, rfl, by simp [setBlock], fun i _ hi => heap_setBlock_other hb _ hi⟩
section
variable {w w' : World} {p mb : Nat} {T : List Tok}
theorem RAt.but {F : Nat → Prop} (h : RAt w p mb T) (hb : But F w w') (h1 : ¬ F p) (h2 : ¬ F mb) : RAt w' p mb T := by
  obtain ⟨n, D, hm, hn, ht⟩ := h.map
  exact ⟨h.blk.but hb h1, ⟨n, D, ownsMap_but hm hb h2, hn, ht⟩, h.good⟩
theorem RAt.lt (h : RAt w p mb T) : p < w.heap.size ∧ mb < w.heap.size := by
  obtain ⟨n, D, hm, hn, ht⟩ := h.map
  exact ⟨h.blk.lt, hm.lt⟩
theorem RAt.new (h : RAt w p mb T) (hb : But (fun _ => False) w w') : RAt w' p mb T := h.but hb (fun h => h) (fun h => h)
theorem RAt.ne (h : RAt w p mb T) {g : Nat} {t : TypeId} {cs : Array Value} (hg : Blk w g t cs) : mb ≠ g := by
  rintro rfl
  obtain ⟨n, D, ⟨es, clock, hh, r⟩, hn, ht⟩ := h.map
  have h2 : w.heap[mb]? = some (.cells cs t (0, 0)) := hg
  rw [hh] at h2
  cases h2
theorem RAt.tight (h : RAt w p mb T) : ∃ D, w.ownsMap Try.prog 28 tokElem mb T.length D ∧ Tells D T := by
  obtain ⟨n, D, hm, hn, ht⟩ := h.map
  have := ownsMap_tight hm
  rw [ht.size] at this
  exact ⟨D, this, ht⟩
/- What is looked up: the token that is there, or a token of zeros. -/
def tokOf : Option Tok → Array Value
  | some x => tcells x.r x.k
  | none => tcells 0 0
theorem zeroTok (w : World) : (zeroValue 54).run Try.prog w = .ok (.agg (tcells 0 0)) w := by kernel_rfl
theorem RAt.look (h : RAt w p mb T) {s : Nat} (hs : s < 4294967296) (o : Option Tok) (ho : look s T = o) :
    (Instr.lookup 49 (.map (some mb)) (.int .u32 (s : Int)) true).run Try.prog w = .ok (.tuple #[.agg (tokOf o), .bool o.isSome]) w := by
  obtain ⟨n, D, hm, hn, ht⟩ := h.map
  obtain ⟨v, ps, hrun, hv⟩ := hm.look_ok law Try.underlying49 (zeroTok w) (tokElem_is 0 0) (key32 hs)
  rw [ht.has, ho] at hrun
  rw [hrun]
  have hz : ∀ {r k : Int}, tokElem v = some (.held (r, k), ps) → v = .agg #[.int .i64 r, .int .u64 k] := by
    intro r k e
    unfold tokElem at e
    split at e
    · simp only [Option.some.injEq, Prod.mk.injEq, DataW.held.injEq] at e
      obtain ⟨⟨rfl, rfl⟩, _⟩ := e
      rfl
    · cases e
  cases o with
  | none =>
    rw [Maps.atKey_of_not_has (by rw [ht.has, ho]; rfl)] at hv
    rw [hz hv]; rfl
  | some x =>
    rw [ht.key s x ho] at hv
    rw [hz hv]; rfl
end
end Go.Proofs.Ytciplhpnbpmfeaa.Rgt
