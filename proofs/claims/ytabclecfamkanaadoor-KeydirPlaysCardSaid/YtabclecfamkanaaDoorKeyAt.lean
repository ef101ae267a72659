/- The program's table in memory, and contracts of its calls that only look. -/
import Derived.Test.YtabclecfamkanaaDoorKeyTab
import Derived.Test.YtabclecfamkanaaDoorBlk
import Derived.Test.YtabclecfamkanaaDoorLate
import Derived.Test.YtabclecfamkanaaDoorFnvWalks
import Derived.WalkKit
import Derived.Deep.QuietTactic
import Derived.BigQuiet
namespace Go.Proofs.YtabclecfamkanaaDoor.Key
open Go.Proofs.YtabclecfamkanaaDoor.Mem Go.Proofs.YtabclecfamkanaaDoor.Fnv
open Go.ChangeShapes Go.WideShapes Go.ChangeAt Go.RowKit
set_option linter.unusedVariables false
set_option linter.unusedSimpArgs false

def nothing : ByteArray := ⟨#[]⟩
def zero : Ent := ⟨nothing, 0, 0, 0, 0, 0, 0⟩
def ecells (e : Ent) : List Value := [.string e.key, .int .i64 e.seg, .int .i64 e.at_, .int .i64 e.len, .int .u64 (e.ver : Int), .int .u64 (e.exp : Int), .int .i64 e.size]
def pcells : Option Ent → List Value
  | none => .bool false :: ecells zero
  | some e => .bool true :: ecells e
def ent (o : Option Ent) : Ent := o.getD zero
theorem pcells_eq (o : Option Ent) : pcells o = .bool o.isSome :: ecells (ent o) := by cases o <;> rfl
theorem pcells_length (o : Option Ent) : (pcells o).length = 8 := by cases o <;> rfl
def rowT (T : Tab) : List Value := T.flatMap pcells
theorem flat_length {α : Type} {f : α → List Value} {k : Nat} (hf : ∀ x, (f x).length = k) : ∀ l : List α, (l.flatMap f).length = l.length * k
  | [] => by simp
  | x :: r => by
    rw [List.flatMap_cons, List.length_append, hf, flat_length hf r, List.length_cons, Nat.add_mul]
    omega
theorem flat_get {α : Type} {f : α → List Value} {k : Nat} (hf : ∀ x, (f x).length = k) : ∀ {l : List α} {i j : Nat} {x : α}, l[i]? = some x → j < k → (l.flatMap f)[i * k + j]? = (f x)[j]?
  | [], i, j, x, h, _ => by simp at h
  | y :: r, i, j, x, h, hj => by
    rw [List.flatMap_cons]
    cases i with
    | zero =>
      simp at h
      subst h
      rw [Nat.zero_mul, Nat.zero_add, List.getElem?_append_left (by rw [hf]; exact hj)]
    | succ i =>
      have ih := flat_get hf (l := r) (i := i) (j := j) (x := x) (by simpa using h) hj
      rw [List.getElem?_append_right (by rw [hf, Nat.add_mul]; omega), hf, Nat.add_mul, show i * k + 1 * k + j - k = i * k + j by omega]
      exact ih
theorem look_some {T : Tab} {i : Nat} (h : i < T.length) : T[i]? = some (look T i) := by simp [look, List.getD, h]
theorem rowT_length (T : Tab) : (rowT T).length = T.length * 8 := flat_length pcells_length T
theorem rowT_get {T : Tab} {i j : Nat} (h : i < T.length) (hj : j < 8) : (rowT T)[i * 8 + j]? = (pcells (look T i))[j]? := flat_get pcells_length (look_some h) hj
/- What any entry that there is holds. -/
structure Is (e : Ent) : Prop where
  key : e.key.size ≤ 9223372036854775807
  seg : -9223372036854775808 ≤ e.seg ∧ e.seg ≤ 9223372036854775807
  at_ : -9223372036854775808 ≤ e.at_ ∧ e.at_ ≤ 9223372036854775807
  len : -9223372036854775808 ≤ e.len ∧ e.len ≤ 9223372036854775807
  ver : e.ver < 18446744073709551616
  exp : e.exp < 18446744073709551616
  size : -9223372036854775808 ≤ e.size ∧ e.size ≤ 9223372036854775807
/- The table: its block p, its places' block g, kn keys as it says. -/
structure KAt (w : World) (p g : Nat) (T : Tab) (i kn : Nat) : Prop where
  blk : Blk w p 57 #[.slice (some ⟨g, 0, none⟩) T.length T.length, .int .i64 (kn : Int)]
  row : Blk w g 59 (rowT T).toArray
  good : Good T i
  small : ∀ e, some e ∈ T → e.key.size ≤ 100
  few : i ≤ 400
section
variable {w w' : World} {p g i kn : Nat} {T : Tab}
theorem KAt.but {F : Nat → Prop} (h : KAt w p g T i kn) (hb : But F w w') (h1 : ¬ F p) (h2 : ¬ F g) : KAt w' p g T i kn := ⟨h.blk.but hb h1, h.row.but hb h2, h.good, h.small, h.few⟩
theorem KAt.lt (h : KAt w p g T i kn) : T.length ≤ 4000 ∧ 8 ≤ T.length := ⟨by have := h.good.size; have := h.few; omega, h.good.eight⟩
theorem Blk.cells {b : Nat} {t : TypeId} (h : Blk w b t (rowT T).toArray) {k : Nat} (hk : k < T.length) :
    w.cell? ⟨b, k * 8, none⟩ = some (.bool (look T k).isSome) ∧ w.cell? ⟨b, k * 8 + 1, none⟩ = some (.string (ent (look T k)).key) ∧ w.cell? ⟨b, k * 8 + 2, none⟩ = some (.int .i64 (ent (look T k)).seg) ∧ w.cell? ⟨b, k * 8 + 3, none⟩ = some (.int .i64 (ent (look T k)).at_) ∧ w.cell? ⟨b, k * 8 + 4, none⟩ = some (.int .i64 (ent (look T k)).len) ∧ w.cell? ⟨b, k * 8 + 5, none⟩ = some (.int .u64 ((ent (look T k)).ver : Int)) ∧ w.cell? ⟨b, k * 8 + 6, none⟩ = some (.int .u64 ((ent (look T k)).exp : Int)) ∧ w.cell? ⟨b, k * 8 + 7, none⟩ = some (.int .i64 (ent (look T k)).size) := by
  have e : ∀ j, j < 8 → w.cell? ⟨b, k * 8 + j, none⟩ = (pcells (look T k))[j]? := fun j hj => by
    rw [h.cell, List.getElem?_toArray]; exact rowT_get hk hj
  rw [pcells_eq] at e
  exact ⟨e 0 (by omega), e 1 (by omega), e 2 (by omega), e 3 (by omega), e 4 (by omega), e 5 (by omega), e 6 (by omega), e 7 (by omega)⟩
end
set_option maxRecDepth 100000 in
set_option maxHeartbeats 400000 in
theorem wrap_any {w : World} {p g n : Nat} {u : Value} (c0 : w.cell? ⟨p, 0, none⟩ = some (.slice (some ⟨g, 0, none⟩) n n)) (hn : 1 ≤ n ∧ n ≤ 1000000) (x : Nat) (hx : x ≤ 1000000000) :
    Calls Tryd.prog 40 #[.pointer (some ⟨p, 0, none⟩), .int .i64 (x : Int)] w fun e w' => e = .returned (.int .i64 ((x % n : Nat) : Int)) ∧ w = w' := by
  have ht : (x : Int).tmod (n : Int) = ((x % n : Nat) : Int) := by rw [Int.tmod_eq_emod_of_nonneg (by omega)]; exact (Int.natCast_emod x n).symm
  have hlt : x % n < n := Nat.mod_lt _ (by omega)
  obtain ⟨M, hM⟩ : ∃ M, M = x % n := ⟨_, rfl⟩
  rw [← hM] at ht hlt ⊢
  clear hM
  obtain ⟨hn1, hn2⟩ := hn
  have hz : ((n : Int) == 0) = false := beq_eq_false_iff_ne.2 (by omega)
  go_enter Tryd.func40, Tryd.ntmps40
  go_wp2
  go_ret
  exact ⟨rfl, rfl⟩
end Go.Proofs.YtabclecfamkanaaDoor.Key
