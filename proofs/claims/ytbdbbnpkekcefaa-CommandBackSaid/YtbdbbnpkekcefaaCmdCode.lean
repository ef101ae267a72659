/- Whether a number is a code; what is denied. -/
import Derived.Test.YtbdbbnpkekcefaaCmdMem
namespace Go.Proofs.Ytbdbbnpkekcefaa.Cmd
open Go.Proofs.Ytbdbbnpkekcefaa.Mem Go.Proofs.Ytbdbbnpkekcefaa.Pack
open Go.ChangeShapes Go.WideShapes Go.ChangeAt Go.RowKit
set_option linter.unusedVariables false
set_option linter.unusedSimpArgs false
/- A response: its pairs, and its buckets, in slices. -/
structure Rs where
  code : Int
  tok : Tok
  ver : Nat
  val : ByteArray
  page : List (ByteArray × ByteArray)
  more : Bool
  keys : Int
  bytes : Int
  charged : Int
  seq : Nat
  buckets : List Int
def pcells (x : ByteArray × ByteArray) : List Value := [.string x.1, .string x.2]
def icells (z : Int) : List Value := [.int .i64 z]
def scells (r : Rs) (pv bv : Value) : Array Value := #[.int .i64 r.code, .int .i64 r.tok.b, .int .u32 (r.tok.g : Int), .int .u32 (r.tok.s : Int), .int .u64 (r.tok.x : Int), .int .u64 (r.ver : Int), .string r.val, pv, .bool r.more, .int .i64 r.keys, .int .i64 r.bytes, .int .i64 r.charged, .int .u64 (r.seq : Int), bv]
def rsv (r : Rs) (pv bv : Value) : Value := .agg (scells r pv bv)
/- A slice that shows a list, each of so many cells. -/
def ShowsFrom {α : Type} (f : α → List Value) (k lo : Nat) (w : World) (v : Value) (l : List α) : Prop :=
  ∃ a cap, v = .slice a l.length cap ∧ (0 < l.length → ∃ b off, a = some ⟨b, off, none⟩ ∧ lo ≤ b ∧ b < w.heap.size ∧ ∀ i (h : i < l.length) j u, (f l[i])[j]? = some u → w.cell? ⟨b, off + i * k + j, none⟩ = some u)
section
variable {α : Type} {f : α → List Value} {k lo : Nat} {w w' : World} {v : Value} {l : List α}
theorem ShowsFrom.but {S : Nat → Prop} (h : ShowsFrom f k lo w v l) (hb : But S w w') (hS : ∀ j, lo ≤ j → j < w.heap.size → ¬ S j) : ShowsFrom f k lo w' v l := by
  obtain ⟨a, cap, e, hc⟩ := h
  refine ⟨a, cap, e, fun h0 => ?_⟩
  obtain ⟨b, off, h1, hlo, hlt, hx⟩ := hc h0
  exact ⟨b, off, h1, hlo, Nat.lt_of_lt_of_le hlt hb.size, fun i hi j u hu => (hb.cell (p := ⟨b, off + i * k + j, none⟩) hlt (hS b hlo hlt)).trans (hx i hi j u hu)⟩
theorem ShowsFrom.below (h : ShowsFrom f k lo w v l) (hb : Below w.heap.size w w') : ShowsFrom f k lo w' v l := h.but (S := fun _ => False) (But.of_new hb) (fun _ _ _ e => e)
theorem ShowsFrom.new (h : ShowsFrom f k lo w v l) (hb : But (fun _ => False) w w') : ShowsFrom f k lo w' v l := h.but hb (fun _ _ _ e => e)
theorem ShowsFrom.mono {lo' : Nat} (h : ShowsFrom f k lo w v l) (hl : lo' ≤ lo) : ShowsFrom f k lo' w v l := by
  obtain ⟨a, cap, e, hc⟩ := h
  refine ⟨a, cap, e, fun h0 => ?_⟩
  obtain ⟨b, off, h1, hlo, hlt, hx⟩ := hc h0
  exact ⟨b, off, h1, Nat.le_trans hl hlo, hlt, hx⟩
theorem ShowsFrom.nil (f : α → List Value) (k lo : Nat) (w : World) : ShowsFrom f k lo w (.slice none 0 0) [] := ⟨none, 0, rfl, fun h => absurd h (by simp)⟩
theorem shows_of_own {base : Nat} {e : TypeId} (hf : ∀ x, (f x).length = k) (h : w.ownsRow base e k v l.length (l.flatMap f)) : ShowsFrom f k base w v l := by
  rcases h.2 with ⟨hv, hn⟩ | ⟨g, cap, cur, hv, hg, hh, hnc, hcm, hcs, ht⟩
  · exact ⟨none, 0, by rw [hv, hn], fun h0 => absurd h0 (by omega)⟩
  · refine ⟨_, cap, hv, fun _ => ⟨g, 0, rfl, hg, (h.lt g (by rw [hv]; rfl)).2, fun i hil j u hu => ?_⟩⟩
    have hj : j < k := by rw [← hf l[i]]; exact (List.getElem?_eq_some_iff.1 hu).1
    have h1 := flat_get (f := f) hf (l := l) (i := i) (j := j) (x := l[i]) (List.getElem?_eq_getElem hil) hj
    have hlen : (l.flatMap f).length = l.length * k := flat_length hf l
    have hsub : World.ownsRow w base e k (.slice (some ⟨g, 0, none⟩) l.length cap) l.length (l.flatMap f) := by rw [← hv]; exact h
    have h2 := hsub.cellAt (i * k + j) (by have : (i + 1) * k ≤ l.length * k := Nat.mul_le_mul_right k hil; rw [Nat.add_mul, Nat.one_mul] at this; omega)
    rw [Nat.zero_add, h2, h1, hu]
end
theorem isCode_any (n : Int) (w : World) : Calls Try.prog 40 #[.int .i64 n] w fun e w' => e = .returned (.bool (decide (0 ≤ n ∧ n ≤ 15))) ∧ w = w' := by
  by_cases h1 : 0 ≤ n
  · by_cases h2 : n ≤ 15
    · have d2 : decide (n ≤ 15) = true := decide_eq_true h2
      rw [decide_eq_true (⟨h1, h2⟩ : 0 ≤ n ∧ n ≤ 15)]
      go_enter Try.func40, Try.ntmps40
      go_wp2
      go_ret
      exact ⟨rfl, rfl⟩
    · have d2 : decide (n ≤ 15) = false := decide_eq_false h2
      rw [decide_eq_false (fun e : 0 ≤ n ∧ n ≤ 15 => h2 e.2)]
      go_enter Try.func40, Try.ntmps40
      go_wp2
      go_ret
      exact ⟨rfl, rfl⟩
  · have d1 : decide (0 ≤ n) = false := decide_eq_false h1
    rw [decide_eq_false (fun e : 0 ≤ n ∧ n ≤ 15 => h1 e.1)]
    go_enter Try.func40, Try.ntmps40
    go_wp2
    go_ret
    exact ⟨rfl, rfl⟩
end Go.Proofs.Ytbdbbnpkekcefaa.Cmd
