/- What the document's Parse answers. -/
import Derived.Test.YtbdbbnpkekcefaaGCmdP
import Derived.Test.YtbdbbnpkekcefaaGCmdReadA
import Derived.Test.YtbdbbnpkekcefaaCmdParse
namespace Go.Proofs.Ytbdbbnpkekcefaa.Cmd
open Go.Proofs.Ytbdbbnpkekcefaa.Mem Go.Proofs.Ytbdbbnpkekcefaa.Pack
open Go.ChangeShapes Go.WideShapes Go.ChangeAt Go.RowKit
set_option linter.unusedVariables false
set_option linter.unusedSimpArgs false

def RParseIs (zs : List Int) (w : World) (e : Ending) (w' : World) : Prop :=
  Below w.heap.size w w' ∧ ((good zs = true ∧ ∃ sv, e = .returned (.tuple #[rv (readRq ⟨zs, false⟩) sv, .bool true]) ∧ OpsAt w' sv (readRq ⟨zs, false⟩).ops) ∨
    (good zs = false ∧ e = .returned (.tuple #[rv zeroRq (.slice none 0 0), .bool false])))
theorem bads9_mono {k n : Nat} {P : Pos} (h : k ≤ n) (hb : bads9 k P = true) : bads9 n P = true := by
  induction n with
  | zero => have : k = 0 := by omega
            subst this; exact hb
  | succ n ih =>
    rcases Nat.lt_or_ge n k with h1 | h1
    · have : k = n + 1 := by omega
      subst this; exact hb
    · rw [bads9_snoc, ih h1]; rfl
theorem own_slice {w : World} {base size n : Nat} {e : TypeId} {v : Value} {xs : List Value} (h : w.ownsRow base e size v n xs) : ∃ a c, v = .slice a n c := by
  rcases h.2 with ⟨hv, hn⟩ | ⟨g, cap, cur, hv, _⟩
  · exact ⟨none, 0, by rw [hv, hn]⟩
  · exact ⟨_, _, hv⟩
theorem rop_info : (Try.prog.info? 83).map (fun i => (i.zero, i.size, i.bytes)) = some (some (.agg #[.bool false, .string ⟨#[]⟩, .string ⟨#[]⟩, .int .u64 0, .int .u64 0]), 5, 56) := by kernel_rfl
theorem OpsFrom.new {lo : Nat} {w w' : World} {sv : Value} {l : List Op} (h : OpsFrom lo w sv l) (hb : But (fun _ => False) w w') : OpsFrom lo w' sv l := h.but hb (fun _ _ _ e => e)
theorem opsFrom_two (w : World) (o : Op) (t : TypeId) : OpsFrom w.heap.size ((w.alloc (.cells #[.bool o.del, .string o.key, .string o.val, .int .u64 (o.cond : Int), .int .u64 (o.ttl : Int)] t)).alloc (.cells #[.bool o.del, .string o.key, .string o.val, .int .u64 (o.cond : Int), .int .u64 (o.ttl : Int)] t)) (.slice (some ⟨w.heap.size + 1, 0, none⟩) 1 1) [o] := by
  have h := opsFrom_one (w := w.alloc (.cells #[.bool o.del, .string o.key, .string o.val, .int .u64 (o.cond : Int), .int .u64 (o.ttl : Int)] t)) (lo := w.heap.size) (by simp) o t (0, 0)
  have e : (w.alloc (.cells #[.bool o.del, .string o.key, .string o.val, .int .u64 (o.cond : Int), .int .u64 (o.ttl : Int)] t)).heap.size = w.heap.size + 1 := by simp
  rw [e] at h
  exact h
theorem Pdg.grow {p r bd : Nat} {t : TypeId} {R B base : Nat} {zs cs : Array Value} {w0 w w' : World} {P : Pos} {bad : Bool} {S : Nat → Prop} (h : Pdg p r bd t R B zs w0 w P bad cs) (hb : But S w w') (hS : ∀ k, S k → base ≤ k) (h1 : p < base) (h2 : r < base) (h3 : R < base) (h4 : B < base) (h5 : w0.heap.size ≤ base) (h6 : bd ≤ base) : Pdg p r bd t R B zs w0 w' P bad cs :=
  ⟨h.pp.other hb (fun e => by have := hS _ e; omega) (fun e => by have := hS _ e; omega) (fun k hk e => by have := hS _ e; omega), h.res.but hb (fun e => by have := hS _ e; omega), h.box.but hb (fun e => by have := hS _ e; omega), h.but.trans hb (fun i hi e => by have := hS _ e; omega), h.lowR, h.lowB, h.ne, h.nR, h.nB⟩
/- The beginning: the result's block, the reader, the reader of requests, the request's block. -/
theorem rparse_start (w : World) (a : Option Addr) (cap : Nat) (zs : List Int) (h : Row w a zs.length zs) (hn : a = none → cap = 0) (hlc : zs.length ≤ cap) (hcm : cap ≤ maxLen) (hl : zs.length ≤ 1073741824) :
    Pdg (w.heap.size + 2) (w.heap.size + 1) w.heap.size 39 w.heap.size (w.heap.size + 3) rzero w
      ((((w.alloc (.cells rzero 39)).alloc (.cells #[.slice a zs.length cap, .int .i64 0, .bool false] 76)).alloc (.cells #[.pointer (some ⟨w.heap.size + 1, 0, none⟩), .bool false] 78)).alloc (.cells rzero 39)) ⟨zs, false⟩ false rzero := by
  have b1 : But (fun _ => False) w (w.alloc (.cells rzero 39)) := (But.refl _ w).alloc _
  have hz0 : Blk (w.alloc (.cells rzero 39)) w.heap.size 39 rzero := Blk.new _ _ _
  obtain ⟨w1, hw1⟩ : ∃ x, x = w.alloc (.cells rzero 39) := ⟨_, rfl⟩
  rw [← hw1] at b1 hz0 ⊢
  have s1 : w1.heap.size = w.heap.size + 1 := by rw [hw1]; simp
  have hrf := rf_new w1 a zs cap (h.below b1.new) hlc hcm hl hn w.heap.size (fun x hx h0 => by
    obtain ⟨b, o, he, hlt, _⟩ := h.2.2 h0
    rw [hx] at he
    injection he with he
    subst he
    exact hlt) 76
  have b2 : But (fun _ => False) w1 (w1.alloc (.cells #[.slice a zs.length cap, .int .i64 0, .bool false] 76)) := (But.refl _ w1).alloc _
  obtain ⟨w2, hw2⟩ : ∃ x, x = w1.alloc (.cells #[.slice a zs.length cap, .int .i64 0, .bool false] 76) := ⟨_, rfl⟩
  rw [← hw2] at b2 hrf ⊢
  have s2 : w2.heap.size = w1.heap.size + 1 := by rw [hw2]; simp
  obtain ⟨h1, h2⟩ := Blk.two w2 #[.pointer (some ⟨w.heap.size + 1, 0, none⟩), .bool false] rzero 78 39
  have b3 : But (fun _ => False) w2 ((w2.alloc (.cells #[.pointer (some ⟨w.heap.size + 1, 0, none⟩), .bool false] 78)).alloc (.cells rzero 39)) := ((But.refl _ w2).alloc _).alloc _
  have e2 : w2.heap.size = w.heap.size + 2 := by omega
  rw [e2] at h1 h2
  rw [s1] at hrf
  have bb := (b1.trans b2 (fun _ _ e => e)).trans b3 (fun _ _ e => e)
  refine ⟨⟨h1, Rf.but (S := fun _ => False) hrf b3 (fun e => e) (fun _ _ e => e), by omega, by omega, by omega, h.2.1⟩, (hz0.but b2 (fun e => e)).but b3 (fun e => e), h2, bb.mono (fun _ _ e => e.elim), Nat.le_refl _, by omega, by omega, by omega, by omega⟩
end Go.Proofs.Ytbdbbnpkekcefaa.Cmd
