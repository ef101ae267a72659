/- In one text: Tokens by rising serials, in plain lists: looked up, put, revoked. A table of tokens in memory: its block, its map; what the map tells. Contracts of a table's calls. -/
import Derived.Test.YtgjofinbdigmcaaOwn
import Derived.Test.YtgjofinbdigmcaaBlk
import Derived.Test.YtgjofinbdigmcaaErr
import Derived.Maps.OwnSet
import Derived.Deep.Slices
import Derived.Deep.Fields
import Derived.Test.YtgjofinbdigmcaaLate
import Derived.Lib.Hide
import Derived.WalkKit
namespace Go.Proofs.Ytgjofinbdigmcaa.Rgt
set_option linter.unusedVariables false
set_option linter.unusedSimpArgs false
structure Tok where
  s : Nat
  r : Int
  k : Nat
structure Ok (x : Tok) : Prop where
  s : x.s < 4294967296
  r : 1 ≤ x.r ∧ x.r ≤ 7
  k : x.k < 18446744073709551616
def Ris (T : List Tok) : Prop := T.Pairwise (fun x y => x.s < y.s)
def look (s : Nat) : List Tok → Option Tok
  | [] => none
  | y :: T => if y.s = s then some y else look s T
def put (x : Tok) : List Tok → List Tok
  | [] => [x]
  | y :: T => if x.s < y.s then x :: y :: T else if x.s = y.s then x :: T else y :: put x T
def del (s : Nat) : List Tok → List Tok
  | [] => []
  | y :: T => if y.s = s then T else y :: del s T
theorem look_mem {s : Nat} {T : List Tok} {x : Tok} (h : look s T = some x) : x ∈ T ∧ x.s = s := by
  induction T with
  | nil => cases h
  | cons y T ih =>
    unfold look at h
    split at h
    · next e => injection h with h; subst h; exact ⟨List.mem_cons_self .., e⟩
    · exact ⟨List.mem_cons_of_mem _ (ih h).1, (ih h).2⟩
theorem look_less {s : Nat} {T : List Tok} (h : ∀ y ∈ T, s < y.s) : look s T = none := by
  induction T with
  | nil => rfl
  | cons y T ih =>
    have h1 := h y (List.mem_cons_self ..)
    unfold look
    rw [if_neg (by omega)]
    exact ih (fun z hz => h z (List.mem_cons_of_mem _ hz))
theorem look_none {s : Nat} {T : List Tok} (h : look s T = none) : ∀ y ∈ T, y.s ≠ s := by
  induction T with
  | nil => intro y hy; cases hy
  | cons y T ih =>
    unfold look at h
    split at h
    · cases h
    · next e =>
      intro z hz
      rcases List.mem_cons.1 hz with rfl | hz
      · exact e
      · exact ih h z hz
theorem look_put (x : Tok) {T : List Tok} (hT : Ris T) (s : Nat) : look s (put x T) = if s = x.s then some x else look s T := by
  induction T with
  | nil =>
    simp only [put, look]
    by_cases h : s = x.s
    · rw [if_pos h.symm, if_pos h]
    · rw [if_neg (fun e => h e.symm), if_neg h]
  | cons y T ih =>
    have hp := List.pairwise_cons.1 hT
    unfold put
    split
    · simp only [look]
      by_cases h : s = x.s
      · rw [if_pos h.symm, if_pos h]
      · rw [if_neg (fun e => h e.symm), if_neg h]
    · next h1 =>
      split
      · next h2 =>
        simp only [look]
        by_cases h : s = x.s
        · rw [if_pos h.symm, if_pos h]
        · rw [if_neg (fun e => h e.symm), if_neg h, if_neg (by omega)]
      · next h2 =>
        simp only [look]
        rw [ih hp.2]
        by_cases h : s = x.s
        · rw [if_neg (by omega), if_pos h, if_pos h]
        · rw [if_neg h, if_neg h]
theorem mem_del {s : Nat} {T : List Tok} {y : Tok} (h : y ∈ del s T) : y ∈ T := by
  induction T with
  | nil => exact h
  | cons z T ih =>
    unfold del at h
    split at h
    · exact List.mem_cons_of_mem _ h
    · rcases List.mem_cons.1 h with rfl | h
      · exact List.mem_cons_self ..
      · exact List.mem_cons_of_mem _ (ih h)
theorem look_del {T : List Tok} (hT : Ris T) (s x : Nat) : look x (del s T) = if x = s then none else look x T := by
  induction T with
  | nil => simp [del, look]
  | cons y T ih =>
    have hp := List.pairwise_cons.1 hT
    unfold del
    split
    · next h1 =>
      by_cases h : x = s
      · rw [if_pos h, look_less (fun z hz => by have := hp.1 z hz; omega)]
      · rw [if_neg h]
        simp only [look]
        rw [if_neg (by omega)]
    · next h1 =>
      simp only [look]
      rw [ih hp.2]
      by_cases h : x = s
      · rw [if_pos h, if_pos h, if_neg (by omega)]
      · rw [if_neg h, if_neg h]
theorem mem_put {x y : Tok} {T : List Tok} (h : y ∈ put x T) : y = x ∨ y ∈ T := by
  induction T with
  | nil => simpa [put] using h
  | cons z T ih =>
    unfold put at h
    split at h
    · rcases List.mem_cons.1 h with rfl | h
      · exact .inl rfl
      · exact .inr h
    · split at h
      · rcases List.mem_cons.1 h with rfl | h
        · exact .inl rfl
        · exact .inr (List.mem_cons_of_mem _ h)
      · rcases List.mem_cons.1 h with rfl | h
        · exact .inr (List.mem_cons_self ..)
        · rcases ih h with h | h
          · exact .inl h
          · exact .inr (List.mem_cons_of_mem _ h)
theorem Ris.put {T : List Tok} (hT : Ris T) (x : Tok) : Ris (put x T) := by
  induction T with
  | nil => simp [Rgt.put, Ris]
  | cons y T ih =>
    have hp := List.pairwise_cons.1 hT
    unfold Rgt.put
    split
    · next h1 =>
      refine List.pairwise_cons.2 ⟨fun z hz => ?_, hT⟩
      rcases List.mem_cons.1 hz with rfl | hz
      · exact h1
      · have := hp.1 z hz; omega
    · split
      · next h2 => exact List.pairwise_cons.2 ⟨fun z hz => by have := hp.1 z hz; omega, hp.2⟩
      · next h1 h2 =>
        refine List.pairwise_cons.2 ⟨fun z hz => ?_, ih hp.2⟩
        rcases mem_put hz with rfl | hz
        · omega
        · exact hp.1 z hz
theorem Ris.del {T : List Tok} (hT : Ris T) (s : Nat) : Ris (del s T) := by
  induction T with
  | nil => exact hT
  | cons y T ih =>
    have hp := List.pairwise_cons.1 hT
    unfold Rgt.del
    split
    · exact hp.2
    · exact List.pairwise_cons.2 ⟨fun z hz => hp.1 z (mem_del hz), ih hp.2⟩
theorem len_put (x : Tok) {T : List Tok} (hT : Ris T) : (put x T).length = if (look x.s T).isSome then T.length else T.length + 1 := by
  induction T with
  | nil => rfl
  | cons y T ih =>
    have hp := List.pairwise_cons.1 hT
    unfold put
    split
    · next h1 =>
      have h2 : look x.s (y :: T) = none := look_less (fun z hz => by
        rcases List.mem_cons.1 hz with rfl | hz
        · exact h1
        · have := hp.1 z hz; omega)
      rw [h2]; rfl
    · split
      · next h2 => simp [look, h2]
      · next h1 h2 =>
        simp only [look, if_neg (fun e : y.s = x.s => h2 e.symm), List.length_cons, ih hp.2]
        split <;> rfl
theorem len_del (s : Nat) (T : List Tok) : (del s T).length + (if (look s T).isSome then 1 else 0) = T.length := by
  induction T with
  | nil => rfl
  | cons y T ih =>
    unfold del look
    split
    · simp
    · simp only [List.length_cons]; omega
def AllOk (T : List Tok) : Prop := ∀ x ∈ T, Ok x
theorem AllOk.put {T : List Tok} (h : AllOk T) {x : Tok} (hx : Ok x) : AllOk (put x T) := fun y hy => by
  rcases mem_put hy with rfl | hy
  · exact hx
  · exact h y hy
theorem AllOk.del {T : List Tok} (h : AllOk T) (s : Nat) : AllOk (del s T) := fun y hy => h y (mem_del hy)
/- What Put tells, and what it makes. -/
def putErr (s : Nat) (r : Int) (T : List Tok) : Int := if r < 1 ∨ 7 < r then 1 else if look s T = none ∧ 100 ≤ T.length then 13 else 0
def putTo (x : Tok) (T : List Tok) : List Tok := if putErr x.s x.r T = 0 then put x T else T
/- What a serial and a secret have. -/
def has (s k : Nat) (T : List Tok) : Int := match look s T with
  | some x => if x.k = k then x.r else 0
  | none => 0
structure Good (T : List Tok) : Prop where
  ris : Ris T
  ok : AllOk T
  len : T.length ≤ 100
theorem Good.nil : Good [] := ⟨List.Pairwise.nil, fun x hx => (by cases hx), (by simp)⟩
theorem Good.putTo {T : List Tok} (h : Good T) {x : Tok} (hs : x.s < 4294967296) (hk : x.k < 18446744073709551616) : Good (putTo x T) := by
  unfold Rgt.putTo
  split
  · next h0 =>
    unfold putErr at h0
    split at h0
    · cases h0
    · next hr =>
      split at h0
      · cases h0
      · next hl =>
        refine ⟨h.ris.put x, h.ok.put ⟨hs, by omega, hk⟩, ?_⟩
        rw [len_put x h.ris]
        have := h.len
        by_cases hn : look x.s T = none
        · rw [hn]
          have : ¬ 100 ≤ T.length := fun h1 => hl ⟨hn, h1⟩
          simp; omega
        · have : (look x.s T).isSome = true := by cases hq : look x.s T with
            | none => exact absurd hq hn
            | some y => rfl
          rw [this]; simp; exact h.len
  · exact h
theorem Good.del {T : List Tok} (h : Good T) (s : Nat) : Good (del s T) := ⟨h.ris.del s, h.ok.del s, by have := len_del s T; have := h.len; omega⟩
theorem look_putTo {T : List Tok} (h : Ris T) (x : Tok) {s : Nat} (hs : s ≠ x.s) : look s (putTo x T) = look s T := by
  unfold putTo
  split
  · rw [look_put x h, if_neg hs]
  · rfl
end Go.Proofs.Ytgjofinbdigmcaa.Rgt
namespace Go.Proofs.Ytgjofinbdigmcaa.Rgt
open Go.Proofs.Ytgjofinbdigmcaa.Mem
open Go.ChangeShapes Go.WideShapes Go.ChangeAt Go.RowKit
open Go.Maps (Keyed)
open Go.ChangeMaps Go.MapKept
set_option linter.unusedVariables false
set_option linter.unusedSimpArgs false
abbrev Tk := Int × Int
def tcells (r : Int) (k : Nat) : Array Value := #[.int .i64 r, .int .u64 (k : Int)]
def tokElem : Value → Option (DataW Tk × List MemPlace)
  | .agg ⟨[.int .i64 r, .int .u64 k]⟩ => some (.held (r, k), [])
  | _ => none
theorem tokElem_is (r : Int) (k : Nat) : tokElem (.agg (tcells r k)) = some (.held (r, (k : Int)), []) := rfl
theorem law : Keyed Try.prog 29 := Maps.int_keyed Try.underlying29
theorem wf32 {s : Nat} (h : s < 4294967296) : (Lit.int .u32 (s : Int)).wf = true := by
  simp [Lit.wf, IntKind.min, IntKind.max, IntKind.signed, IntKind.bits]; omega
theorem key32 {s : Nat} (h : s < 4294967296) : keyOf Try.prog 29 (.int .u32 (s : Int)) = some (.int .u32 (s : Int)) := Maps.keyOf_int_mk Try.underlying29 (wf32 h)
structure Tells (D : DataW Tk) (T : List Tok) : Prop where
  has : ∀ s : Nat, Maps.has D (.int .u32 (s : Int)) = (look s T).isSome
  key : ∀ (s : Nat) x, look s T = some x → ∀ z, D.atKey (.int .u32 (s : Int)) z = .held (x.r, (x.k : Int))
  size : Maps.size D = T.length
theorem lit_ne {a b : Nat} (h : a ≠ b) : (Lit.int .u32 (a : Int)) ≠ .int .u32 (b : Int) := by
  intro he
  injection he with _ he
  omega
theorem tells_new : Tells (.map []) [] := ⟨fun s => rfl, fun s x h => (by cases h), rfl⟩
theorem Tells.put {D : DataW Tk} {T : List Tok} (h : Tells D T) (hm : Maps.IsMap D) (ht : Maps.Tidy D) (hT : Ris T) (x : Tok) : Tells (D.put (.int .u32 (x.s : Int)) (.held (x.r, (x.k : Int)))) (put x T) where
  has s := by
    rw [look_put x hT]
    by_cases hs : s = x.s
    · rw [if_pos hs, hs, Maps.has_put_same (k := .int .u32 (x.s : Int)) hm trivial]; rfl
    · rw [if_neg hs, Maps.has_put_other (lit_ne hs), h.has]
  key s y hy z := by
    rw [look_put x hT] at hy
    by_cases hs : s = x.s
    · rw [if_pos hs] at hy
      injection hy with hy
      subst hy
      rw [hs, Maps.atKey_put_same (k := .int .u32 (x.s : Int)) hm trivial]
    · rw [if_neg hs] at hy
      rw [Maps.atKey_put_other (lit_ne hs), h.key s y hy]
  size := by
    rw [Maps.size_put ht, h.has, h.size, len_put x hT]
theorem Tells.del {D : DataW Tk} {T : List Tok} (h : Tells D T) (ht : Maps.Tidy D) (hT : Ris T) (s : Nat) : Tells (D.del (.int .u32 (s : Int))) (del s T) where
  has x := by
    rw [look_del hT]
    by_cases hs : x = s
    · rw [if_pos hs, hs, Maps.has_del_same]; rfl
    · rw [if_neg hs, Maps.has_del_other (lit_ne hs), h.has]
  key x y hy z := by
    rw [look_del hT] at hy
    by_cases hs : x = s
    · rw [if_pos hs] at hy; cases hy
    · rw [if_neg hs] at hy
      rw [Maps.atKey_del_other (lit_ne hs), h.key x y hy]
  size := by
    have h1 := Maps.size_del (k := .int .u32 (s : Int)) ht
    have h2 := len_del s T
    rw [h.has, h.size] at h1
    omega
/- A table's block is p, its map's mb. -/
structure RAt (w : World) (p mb : Nat) (T : List Tok) : Prop where
  blk : Blk w p 77 #[.map (some mb)]
  map : ∃ n D, w.ownsMap Try.prog 29 tokElem mb n D ∧ n ≤ 1000 ∧ Tells D T
  good : Good T
theorem ownsMap_but {H : Type} {P : Program} {k : TypeId} {R : Value → Option (DataW H × List MemPlace)} {w w' : World} {b n : Nat} {D : DataW H} {T : Nat → Prop} (h : w.ownsMap P k R b n D) (hb : But T w w') (hg : ¬ T b) : w'.ownsMap P k R b n D := by
  have hlt := h.lt
  obtain ⟨es, clock, hh, r⟩ := h
  exact ⟨es, clock, (hb.block b hlt hg).trans hh, r⟩
theorem ownsMap_tight {H : Type} {P : Program} {k : TypeId} {R : Value → Option (DataW H × List MemPlace)} {w : World} {b n : Nat} {D : DataW H} (h : w.ownsMap P k R b n D) : w.ownsMap P k R b (Maps.size D) D := by
  obtain ⟨es, clock, hh, F, hs, rfl⟩ := h
  exact ⟨es, clock, hh, F, by simp [Maps.size, length_sorted], rfl⟩
theorem turned_but {w w' : World} {b : Nat} (h : w.mapTurned w' b) : But (fun k => k = b) w w' := by
  obtain ⟨es, clock, es', clock', hb, rfl⟩ := h
  exact ⟨rfl, rfl, rfl, by simp [setBlock], fun i _ hi => heap_setBlock_other hb _ hi⟩
section
variable {w w' : World} {p mb : Nat} {T : List Tok}
theorem RAt.but {F : Nat → Prop} (h : RAt w p mb T) (hb : But F w w') (h1 : ¬ F p) (h2 : ¬ F mb) : RAt w' p mb T := by
  obtain ⟨n, D, hm, hn, ht⟩ := h.map
  exact ⟨h.blk.but hb h1, ⟨n, D, ownsMap_but hm hb h2, hn, ht⟩, h.good⟩
theorem RAt.lt (h : RAt w p mb T) : p < w.heap.size ∧ mb < w.heap.size := by
  obtain ⟨n, D, hm, hn, ht⟩ := h.map
  exact ⟨h.blk.lt, hm.lt⟩
theorem RAt.new (h : RAt w p mb T) (hb : But (fun _ => False) w w') : RAt w' p mb T := h.but hb (fun h => h) (fun h => h)
theorem RAt.ne (h : RAt w p mb T) {g : Nat} {t : TypeId} {cs : Array Value} (hg : Blk w g t cs) : mb ≠ g := by
  rintro rfl
  obtain ⟨n, D, ⟨es, clock, hh, r⟩, hn, ht⟩ := h.map
  have h2 : w.heap[mb]? = some (.cells cs t (0, 0)) := hg
  rw [hh] at h2
  cases h2
theorem RAt.tight (h : RAt w p mb T) : ∃ D, w.ownsMap Try.prog 29 tokElem mb T.length D ∧ Tells D T := by
  obtain ⟨n, D, hm, hn, ht⟩ := h.map
  have := ownsMap_tight hm
  rw [ht.size] at this
  exact ⟨D, this, ht⟩
/- What is looked up: the token that is there, or a token of zeros. -/
def tokOf : Option Tok → Array Value
  | some x => tcells x.r x.k
  | none => tcells 0 0
theorem zeroTok (w : World) : (zeroValue 87).run Try.prog w = .ok (.agg (tcells 0 0)) w := by kernel_rfl
theorem RAt.look (h : RAt w p mb T) {s : Nat} (hs : s < 4294967296) (o : Option Tok) (ho : look s T = o) :
    (Instr.lookup 75 (.map (some mb)) (.int .u32 (s : Int)) true).run Try.prog w = .ok (.tuple #[.agg (tokOf o), .bool o.isSome]) w := by
  obtain ⟨n, D, hm, hn, ht⟩ := h.map
  obtain ⟨v, ps, hrun, hv⟩ := hm.look_ok law Try.underlying75 (zeroTok w) (tokElem_is 0 0) (key32 hs)
  rw [ht.has, ho] at hrun
  rw [hrun]
  have hz : ∀ {r k : Int}, tokElem v = some (.held (r, k), ps) → v = .agg #[.int .i64 r, .int .u64 k] := by
    intro r k e
    unfold tokElem at e
    split at e
    · simp only [Option.some.injEq, Prod.mk.injEq, DataW.held.injEq] at e
      obtain ⟨⟨rfl, rfl⟩, _⟩ := e
      rfl
    · cases e
  cases o with
  | none =>
    rw [Maps.atKey_of_not_has (by rw [ht.has, ho]; rfl)] at hv
    rw [hz hv]; rfl
  | some x =>
    rw [ht.key s x ho] at hv
    rw [hz hv]; rfl
end
end Go.Proofs.Ytgjofinbdigmcaa.Rgt
namespace Go.Proofs.Ytgjofinbdigmcaa.Rgt
open Go.Proofs.Ytgjofinbdigmcaa.Mem
open Go.ChangeShapes Go.WideShapes Go.ChangeAt Go.RowKit
open Go.Proofs.Ytgjofinbdigmcaa.Err (errV errV_zero errV_some)
set_option linter.unusedVariables false
set_option linter.unusedSimpArgs false
section
variable {w w' : World} {p mb : Nat} {T : List Tok}
theorem rgt_are (r : Int) (w : World) : Calls Try.prog 38 #[.int .i64 r] w fun e w' => e = .returned (.bool (decide (1 ≤ r ∧ r ≤ 7))) ∧ w = w' := by
  by_cases h1 : r ≥ 1
  · by_cases h2 : r ≤ 7
    · rw [show decide (1 ≤ r ∧ r ≤ 7) = true from by simp; omega]
      go_enter Try.func38, Try.ntmps38
      go_wp2
      go_ret
      exact ⟨rfl, rfl⟩
    · rw [show decide (1 ≤ r ∧ r ≤ 7) = false from by simp; omega]
      go_enter Try.func38, Try.ntmps38
      go_wp2
      go_ret
      exact ⟨rfl, rfl⟩
  · rw [show decide (1 ≤ r ∧ r ≤ 7) = false from by simp; omega]
    go_enter Try.func38, Try.ntmps38
    go_wp2
    go_ret
    exact ⟨rfl, rfl⟩
theorem rgt_new (w : World) : Calls Try.prog 18 #[] w fun e w' => ∃ p mb, e = .returned (.pointer (some ⟨p, 0, none⟩)) ∧ RAt w' p mb [] ∧ (w.heap.size ≤ p ∧ w.heap.size ≤ mb) ∧ But (fun _ => False) w w' := by
  have hmm := @run_makeMap Try.prog
  go_enter Try.func18, Try.ntmps18
  go_wp2
  go_ret
  refine ⟨w.heap.size + 1, w.heap.size, by simp, ?_, ⟨by omega, by omega⟩, ((But.refl _ w).alloc _).alloc _⟩
  have h1 : Blk ((w.alloc (.map #[] 0)).alloc (.cells #[.map (some w.heap.size)] 77)) (w.alloc (.map #[] 0)).heap.size 77 #[.map (some w.heap.size)] := Blk.new _ _ _
  rw [show (w.alloc (.map #[] 0)).heap.size = w.heap.size + 1 from by simp] at h1
  exact ⟨h1, ⟨0, .map [], (World.ownsMap_made w _ _ _).alloc _, by omega, tells_new⟩, Good.nil⟩
theorem tok_size : (Try.prog.info? 87).map (·.size) = some 2 := by kernel_rfl
theorem rgt_len (h : RAt w p mb T) : Calls Try.prog 108 #[.pointer (some ⟨p, 0, none⟩)] w fun e w' => e = .returned (.int .i64 (T.length : Int)) ∧ w = w' := by
  obtain ⟨D, hm, ht⟩ := h.tight
  have c0 : w.cell? ⟨p, 0, none⟩ = some (.map (some mb)) := h.blk.cell 0
  have hl := hm.len Try.underlying75
  rw [ht.size] at hl
  go_enter Try.func108, Try.ntmps108
  go_wp2
  go_ret
  exact ⟨rfl, rfl⟩
set_option maxRecDepth 100000 in
set_option maxHeartbeats 1000000 in
theorem rgt_revoke (h : RAt w p mb T) {s : Nat} (hs : s < 4294967296) : Calls Try.prog 25 #[.pointer (some ⟨p, 0, none⟩), .int .u32 (s : Int)] w fun e w' => e = .returned (.bool (look s T).isSome) ∧ RAt w' p mb (del s T) ∧ But (fun j => j = mb) w w' := by
  have c0 : w.cell? ⟨p, 0, none⟩ = some (.map (some mb)) := h.blk.cell 0
  obtain ⟨o, ho⟩ : ∃ o, look s T = o := ⟨_, rfl⟩
  have lk := h.look hs o ho
  obtain ⟨r, k, hrk⟩ : ∃ (r : Int) (k : Nat), tokOf o = tcells r k := by
    cases o with
    | none => exact ⟨0, 0, rfl⟩
    | some x => exact ⟨x.r, x.k, rfl⟩
  rw [hrk] at lk
  unfold tcells at lk
  rw [ho]
  clear hrk
  obtain ⟨b, hb⟩ : ∃ b, o.isSome = b := ⟨_, rfl⟩
  rw [hb] at lk ⊢
  have HB := Lib.hid (And.intro ho hb)
  clear hb ho
  have h2 := h.new ((But.refl (fun _ => False) w).alloc (.cells #[.int .i64 r, .int .u64 (k : Int)] 87))
  obtain ⟨n, D, hm, hn, ht⟩ := h2.map
  have c1 : (w.alloc (.cells #[.int .i64 r, .int .u64 (k : Int)] 87)).cell? ⟨p, 0, none⟩ = some (.map (some mb)) := h2.blk.cell 0
  have H := Lib.hid h2
  have HM := Lib.hid hm
  have HT := Lib.hid (And.intro hn ht)
  have HP := Lib.hid h.lt
  clear h h2 hm hn ht
  go_enter Try.func25, Try.ntmps25
  go_wp2_with (at_delete; refine wpList_delete_own _ rfl _ _ 75 29 rfl 87 law Try.underlying75 _ mb _ _ rfl HM.out _ _ rfl (key32 hs) ?_; intro w5 hm5 ht5; clear c0 c1 lk)
  go_ret
  have hb5 := turned_but ht5
  have h5 := H.out
  refine ⟨rfl, ⟨h5.blk.but hb5 (fun e => h5.ne h5.blk e.symm), ⟨n, _, hm5, HT.out.1, HT.out.2.del (HM.out.tidy law) h5.good.ris s⟩, h5.good.del s⟩, (((But.refl (fun j => j = mb) w).alloc _).trans hb5 (fun j _ e => e))⟩
set_option maxRecDepth 100000 in
set_option maxHeartbeats 1000000 in
theorem rgt_put (h : RAt w p mb T) {s k : Nat} (hs : s < 4294967296) (hk : k < 18446744073709551616) (r : Int) : Calls Try.prog 23 #[.pointer (some ⟨p, 0, none⟩), .int .u32 (s : Int), .int .i64 r, .int .u64 (k : Int)] w fun e w' => e = .returned (errV (putErr s r T)) ∧ RAt w' p mb (putTo ⟨s, r, k⟩ T) ∧ But (fun j => j = mb) w w' := by
  have c0 : w.cell? ⟨p, 0, none⟩ = some (.map (some mb)) := h.blk.cell 0
  have ha := Lib.hid (rgt_are r)
  by_cases hr : 1 ≤ r ∧ r ≤ 7
  · have hr2 : decide (1 ≤ r ∧ r ≤ 7) = true := by simp; omega
    rw [hr2] at ha
    obtain ⟨o, ho⟩ : ∃ o, look s T = o := ⟨_, rfl⟩
    have lk := h.look hs o ho
    obtain ⟨r0, k0, hrk⟩ : ∃ (r : Int) (k : Nat), tokOf o = tcells r k := by
      cases o with
      | none => exact ⟨0, 0, rfl⟩
      | some x => exact ⟨x.r, x.k, rfl⟩
    rw [hrk] at lk
    unfold tcells at lk
    have h2 := h.new ((But.refl (fun _ => False) w).alloc (.cells #[.int .i64 r0, .int .u64 (k0 : Int)] 87))
    obtain ⟨D, hm, ht⟩ := h2.tight
    have c1 : (w.alloc (.cells #[.int .i64 r0, .int .u64 (k0 : Int)] 87)).cell? ⟨p, 0, none⟩ = some (.map (some mb)) := h2.blk.cell 0
    have hl := hm.len Try.underlying75
    rw [ht.size] at hl
    have H := Lib.hid h2
    have HM := Lib.hid hm
    have HT := Lib.hid ht
    have HP := Lib.hid h.lt
    clear h h2 hm ht hrk
    by_cases hfull : o = none ∧ 100 ≤ T.length
    · have e1 : putErr s r T = 13 := by unfold putErr; rw [if_neg (by omega), if_pos (by rw [ho]; exact hfull)]
      have e2 : putTo ⟨s, r, k⟩ T = T := by unfold putTo; rw [if_neg (by show ¬ putErr s r T = 0; rw [e1]; omega)]
      rw [e1, e2]
      obtain ⟨rfl, hf⟩ := hfull
      have hfi : (100 : Int) ≤ (T.length : Int) := by omega
      clear e1 e2 hf ho
      obtain ⟨m, hm⟩ : ∃ m, m = T.length := ⟨_, rfl⟩
      rw [← hm] at hl hfi
      clear hm
      go_enter Try.func23, Try.ntmps23
      go_wp2_with (first | (go_at_call 38; refine (ha.out _).mono ?_; rintro e w1 ⟨rfl, rfl⟩))
      go_ret
      exact ⟨rfl, H.out, (But.refl (fun j => j = mb) w).alloc _⟩
    · have e1 : putErr s r T = 0 := by unfold putErr; rw [if_neg (by omega), if_neg (by rw [ho]; exact hfull)]
      have e2 : putTo ⟨s, r, k⟩ T = put ⟨s, r, k⟩ T := by unfold putTo; rw [if_pos e1]
      have hG := Lib.hid (show Good (put ⟨s, r, k⟩ T) from e2 ▸ (H.out.good.putTo (x := ⟨s, r, k⟩) hs hk))
      rw [e1, e2]
      have hb2 := Lib.hid ((But.refl (fun j => j = mb) w).alloc (.cells #[.int .i64 r0, .int .u64 (k0 : Int)] 87))
      have hf : o = none → ¬ (100 : Int) ≤ (T.length : Int) := fun h h2 => hfull ⟨h, by omega⟩
      have hTl := H.out.good.len
      have HTL := Lib.hid hTl
      clear e1 e2 ho hfull hTl
      obtain ⟨m, hm⟩ : ∃ m, m = T.length := ⟨_, rfl⟩
      rw [← hm] at hl hf HM HTL
      have HMM := Lib.hid hm
      clear hm
      obtain ⟨W2, hW2⟩ : ∃ W2, W2 = w.alloc (.cells #[.int .i64 r0, .int .u64 (k0 : Int)] 87) := ⟨_, rfl⟩
      cases o with
      | none =>
        have hfi := hf rfl
        clear hf hW2
        go_enter Try.func23, Try.ntmps23
        go_wp2_with (first
          | (go_at_call 38; refine (ha.out _).mono ?_; rintro e w1 ⟨rfl, rfl⟩)
          | (at_mapUpdate; refine wpList_mapUpdate_in _ rfl _ _ _ 75 rfl 29 87 law Try.underlying75 _ mb _ _ rfl HM.out (by have := HTL.out; unfold maxLen; omega) _ _ _ rfl rfl (key32 hs) _ _ (tokElem_is r k) ?_; intro w5 hm5 ht5; clear c0 c1 lk hl))
        go_ret
        have hb5 := turned_but ht5
        have h5 := H.out
        exact ⟨rfl, ⟨h5.blk.but hb5 (fun e => h5.ne h5.blk e.symm), ⟨_, _, hm5, by have := HTL.out; omega, HT.out.put HM.out.isMap (HM.out.tidy law) h5.good.ris ⟨s, r, k⟩⟩, hG.out⟩, hb2.out.trans hb5 (fun j _ e => e)⟩
      | some x =>
        clear hf hW2
        go_enter Try.func23, Try.ntmps23
        go_wp2_with (first
          | (go_at_call 38; refine (ha.out _).mono ?_; rintro e w1 ⟨rfl, rfl⟩)
          | (at_mapUpdate; refine wpList_mapUpdate_in _ rfl _ _ _ 75 rfl 29 87 law Try.underlying75 _ mb _ _ rfl HM.out (by have := HTL.out; unfold maxLen; omega) _ _ _ rfl rfl (key32 hs) _ _ (tokElem_is r k) ?_; intro w5 hm5 ht5; clear c0 c1 lk hl))
        go_ret
        have hb5 := turned_but ht5
        have h5 := H.out
        exact ⟨rfl, ⟨h5.blk.but hb5 (fun e => h5.ne h5.blk e.symm), ⟨_, _, hm5, by have := HTL.out; omega, HT.out.put HM.out.isMap (HM.out.tidy law) h5.good.ris ⟨s, r, k⟩⟩, hG.out⟩, hb2.out.trans hb5 (fun j _ e => e)⟩
  · have hr2 : decide (1 ≤ r ∧ r ≤ 7) = false := by simp; omega
    rw [hr2] at ha
    have e1 : putErr s r T = 1 := by unfold putErr; rw [if_pos (by omega)]
    have e2 : putTo ⟨s, r, k⟩ T = T := by unfold putTo; rw [if_neg (by show ¬ putErr s r T = 0; rw [e1]; omega)]
    rw [e1, e2]
    have H := Lib.hid h
    clear h c0 hr hr2 e1 e2
    go_enter Try.func23, Try.ntmps23
    go_wp2_with (first | (go_at_call 38; refine (ha.out _).mono ?_; rintro e w1 ⟨rfl, rfl⟩))
    go_ret
    exact ⟨rfl, H.out, But.refl _ w⟩
def within (a b : Int) : Bool := decide (1 ≤ a ∧ a ≤ 7) && (bits .and .i64 a b == a)
end
end Go.Proofs.Ytgjofinbdigmcaa.Rgt
