/- Ops and requests in memory; what a call appends to a row beside a block that it reads. -/
import Derived.Test.YtbdbbnpkekcefaaGCmdMath
import Derived.Test.YtbdbbnpkekcefaaBlk
import Derived.Test.YtbdbbnpkekcefaaMany
import Derived.Test.YtbdbbnpkekcefaaErr
import Derived.Below
import Derived.Outline
import Derived.WalkSpells
import Derived.WalkLawsBesides
import Derived.LoopTactic
import Derived.Lib.Hide
import Derived.WalkMore
import Derived.Deep.QuietTactic
import Derived.BigQuiet
import Derived.Laws.Rows
import Derived.Great.BuildSlice
import Derived.Laws.Tables
namespace Go.Proofs.Ytbdbbnpkekcefaa.Cmd
open Go.Proofs.Ytbdbbnpkekcefaa.Mem Go.Proofs.Ytbdbbnpkekcefaa.Pack
open Go.ChangeShapes Go.WideShapes Go.ChangeAt Go.RowKit
set_option linter.unusedVariables false
set_option linter.unusedSimpArgs false

def ocells (o : Op) : List Value := [.bool o.del, .string o.key, .string o.val, .int .u64 (o.cond : Int), .int .u64 (o.ttl : Int)]
theorem ocells_length (o : Op) : (ocells o).length = 5 := rfl
theorem ocells_one (o : Op) : ∀ u ∈ ocells o, u.oneCell' = true := by simp [ocells, Value.oneCell']
def ov (o : Op) : Value := .agg #[.bool o.del, .string o.key, .string o.val, .int .u64 (o.cond : Int), .int .u64 (o.ttl : Int)]
structure OpIs (o : Op) : Prop where
  cond : o.cond < 18446744073709551616
  ttl : o.ttl < 18446744073709551616
/- A slice that shows ops. -/
def OpsAt (w : World) (sv : Value) (l : List Op) : Prop :=
  ∃ a cap, sv = .slice a l.length cap ∧ (0 < l.length → ∃ b off, a = some ⟨b, off, none⟩ ∧ b < w.heap.size ∧ ∀ i (h : i < l.length) j u, (ocells l[i])[j]? = some u → w.cell? ⟨b, off + i * 5 + j, none⟩ = some u)
theorem OpsAt.below {w w' : World} {sv : Value} {l : List Op} (h : OpsAt w sv l) (hb : Below w.heap.size w w') : OpsAt w' sv l := by
  obtain ⟨a, cap, e, hc⟩ := h
  refine ⟨a, cap, e, fun h0 => ?_⟩
  obtain ⟨b, off, rfl, hlt, hx⟩ := hc h0
  exact ⟨b, off, rfl, Nat.lt_of_lt_of_le hlt hb.size, fun i hi j u hu => (hb.cell (p := ⟨b, off + i * 5 + j, none⟩) hlt).trans (hx i hi j u hu)⟩
theorem OpsAt.nil (w : World) : OpsAt w (.slice none 0 0) [] := ⟨none, 0, rfl, fun h => absurd h (by simp)⟩
theorem OpsAt.cells {w : World} {b off : Nat} {l : List Op} (hx : ∀ i (h : i < l.length) j u, (ocells l[i])[j]? = some u → w.cell? ⟨b, off + i * 5 + j, none⟩ = some u) {k : Nat} (hk : k < l.length) {o : Op} (ho : o = l[k]) :
    w.cell? ⟨b, off + k * 5, none⟩ = some (.bool o.del) ∧ w.cell? ⟨b, off + k * 5 + 1, none⟩ = some (.string o.key) ∧ w.cell? ⟨b, off + k * 5 + 2, none⟩ = some (.string o.val) ∧ w.cell? ⟨b, off + k * 5 + 3, none⟩ = some (.int .u64 (o.cond : Int)) ∧ w.cell? ⟨b, off + k * 5 + 4, none⟩ = some (.int .u64 (o.ttl : Int)) := by
  subst ho
  exact ⟨hx k hk 0 _ rfl, hx k hk 1 _ rfl, hx k hk 2 _ rfl, hx k hk 3 _ rfl, hx k hk 4 _ rfl⟩
theorem opsAt_of_own {w : World} {base : Nat} {e : TypeId} {v : Value} {l : List Op} (h : w.ownsRow base e 5 v l.length (l.flatMap ocells)) : OpsAt w v l := by
  rcases h.2 with ⟨hv, hn⟩ | ⟨g, cap, cur, hv, hg, hh, hnc, hcm, hcs, ht⟩
  · exact ⟨none, 0, by rw [hv, hn], fun h0 => absurd h0 (by omega)⟩
  · refine ⟨_, cap, hv, fun _ => ⟨g, 0, rfl, (h.lt g (by rw [hv]; rfl)).2, fun i hil j u hu => ?_⟩⟩
    have hj : j < 5 := (List.getElem?_eq_some_iff.1 hu).1
    have h1 := flat_get (f := ocells) ocells_length (l := l) (i := i) (j := j) (x := l[i]) (List.getElem?_eq_getElem hil) hj
    have hlen : (l.flatMap ocells).length = l.length * 5 := flat_length ocells_length l
    have hsub : World.ownsRow w base e 5 (.slice (some ⟨g, 0, none⟩) l.length cap) l.length (l.flatMap ocells) := by rw [← hv]; exact h
    have h2 := hsub.cellAt (i * 5 + j) (by have : (i + 1) * 5 ≤ l.length * 5 := Nat.mul_le_mul_right 5 hil; omega)
    rw [Nat.zero_add, h2, h1, hu]
/- A request's value: its ops lie in the slice sv. -/
def rcells (q : Rq) (sv : Value) : Array Value := #[.int .i64 q.tag, .int .u64 (q.admin : Int), .int .i64 q.bucket, .int .i64 q.quo.k, .int .i64 q.quo.b, .int .i64 q.quo.g, .int .i64 q.tok.b, .int .u32 (q.tok.g : Int), .int .u32 (q.tok.s : Int), .int .u64 (q.tok.x : Int), sv, .string q.after, .bool q.first, .int .i64 q.count, .int .i64 q.rights, .int .u32 (q.serial : Int)]
def rv (q : Rq) (sv : Value) : Value := .agg (rcells q sv)
def tv (t : Tok) : Value := .agg #[.int .i64 t.b, .int .u32 (t.g : Int), .int .u32 (t.s : Int), .int .u64 (t.x : Int)]
def qv (q : Quo) : Value := .agg #[.int .i64 q.k, .int .i64 q.b, .int .i64 q.g]
structure TokSo (t : Tok) : Prop where
  b : I64 t.b
  g : t.g < 4294967296
  s : t.s < 4294967296
  x : t.x < 18446744073709551616
structure RqIs (q : Rq) : Prop where
  tag : I64 q.tag
  admin : q.admin < 18446744073709551616
  bucket : I64 q.bucket
  quo : QuoIs q.quo
  tok : TokSo q.tok
  ops : ∀ o ∈ q.ops, OpIs o
  count : I64 q.count
  rights : I64 q.rights
  serial : q.serial < 4294967296
theorem TokIs.so {t : Tok} (h : TokIs t) : TokSo t := ⟨⟨by have := h.b; omega, by have := h.b; omega⟩, h.g, h.s, h.x⟩
theorem wrap_u64 (z : Int) : IntKind.u64.wrap z = ((u64 z : Nat) : Int) := by
  rw [u64_cast]
  simp [IntKind.wrap, IntKind.signed, IntKind.bits]
theorem wrap_u64_nat {n : Nat} (h : n < 18446744073709551616) : IntKind.u64.wrap (n : Int) = (n : Int) := by rw [wrap_u64, u64_nat h]
theorem req_size : (Try.prog.info? 32).map (·.size) = some 16 := by kernel_rfl
theorem ref_size : (Try.prog.info? 39).map (·.size) = some 16 := by kernel_rfl
theorem op_size : (Try.prog.info? 87).map (·.size) = some 5 := by kernel_rfl
theorem rop_size : (Try.prog.info? 83).map (·.size) = some 5 := by kernel_rfl
theorem tok_size : (Try.prog.info? 29).map (·.size) = some 4 := by kernel_rfl
theorem quo_size : (Try.prog.info? 26).map (·.size) = some 3 := by kernel_rfl
theorem row_eq {w : World} {base n m : Nat} {e : TypeId} {v : Value} {xs ys : List Int} (h : w.ownsRow base e 1 v n (cellsOf xs)) (hn : n = m) (hx : xs = ys) : w.ownsRow base e 1 v m (cellsOf ys) := by subst hn hx; exact h
/- A row that is appended to, beside a block that is read. -/
structure Going (w0 : World) (v0 : Value) (base B : Nat) (t : TypeId) (cs : Array Value) (w : World) (v : Value) (len : Nat) (xs : List Int) : Prop where
  own : w.ownsRow base 5 1 v len (cellsOf xs)
  box : Blk w B t cs
  size : base ≤ w.heap.size
  ne : v.ownBlock ≠ some B
  onto : Onto w0 w v0 v
section
variable {w0 w w' : World} {base B len len' : Nat} {t : TypeId} {cs : Array Value} {v0 v v' : Value} {xs ys : List Int}
theorem Going.step (h : Going w0 v0 base B t cs w v len xs) (ho : w'.ownsRow base 5 1 v' len' (cellsOf ys)) (hon : Onto w w' v v') : Going w0 v0 base B t cs w' v' len' ys :=
  ⟨ho, h.box.but (But.of_grown hon.grown) (fun e => h.ne e.symm), Nat.le_trans h.size hon.grown.size, fun e => by
    rcases hon.own with h1 | h1
    · exact h.ne (h1 ▸ e)
    · have := h1 _ e; have := h.box.lt; omega, h.onto.trans hon⟩
theorem Going.start (cs : Array Value) (t : TypeId) (h : w.ownsRow base 5 1 v len (cellsOf xs)) (hb : base ≤ w.heap.size) : Going w v base w.heap.size t cs (w.alloc (.cells cs t)) v len xs :=
  ⟨ownsRow_alloc h _, Blk.new _ _ _, by simp; omega, fun e => by have := (h.lt _ e).2; omega, (Onto.refl w v).alloc _⟩
theorem Going.cell (h : Going w0 v0 base B t cs w v len xs) (i : Nat) {u : Value} (hu : cs[i]? = some u) : w.cell? ⟨B, i, none⟩ = some u := (h.box.cell i).trans hu
end
theorem own_none (w : World) : w.ownsRow w.heap.size 5 1 (.slice none 0 0) 0 (cellsOf []) := World.ownsRow_nil w w.heap.size 5 1
theorem text_onto (s : ByteArray) (hs : s.size ≤ 65535) (v : Value) (len : Nat) (xs : List Int) (base : Nat) (w : World)
    (hown : w.ownsRow base 5 1 v len (cellsOf xs)) (hb : base ≤ w.heap.size) (hl : len ≤ 1073741824) :
    Calls Try.prog 54 #[v, .string s] w fun e w' => ∃ v', e = .returned v' ∧ w'.ownsRow base 5 1 v' (len + 2 + s.size) (cellsOf (xs ++ text s)) ∧ Onto w w' v v' := by
  refine (putText_any s s (by rw [cut, if_neg (by omega)]) v len xs base w hown hb hl (by omega)).mono ?_
  rintro e w' ⟨v', rfl, h1, h2⟩
  exact ⟨v', rfl, by unfold text; rw [← List.append_assoc]; exact h1, h2⟩
end Go.Proofs.Ytbdbbnpkekcefaa.Cmd
