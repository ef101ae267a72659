/- Words for memory of this project: a slice that shows its cells (nil let in), an append onto a row of the call's own from such a slice, and slices of bytes. -/
import Derived.Below
import Derived.Laws.OwnMore
import Derived.Maps.AppendAt
import Derived.OwnWalk
import Derived.ProofKit
namespace Go.Proofs.Ytbdbbnpkekcefaa.Mem
open Go.RowKit
set_option linter.unusedVariables false

/- The slice value v shows the cells cs: it is nil and there are none, or it points at them. -/
def Sees (w : World) (size : Nat) (v : Value) (n : Nat) (cs : List Value) : Prop :=
  (v = .slice none 0 0 ∧ n = 0 ∧ cs = []) ∨
  ∃ p c, v = .slice (some p) n c ∧ cs.length = n * size ∧ ∀ j u, cs[j]? = some u → p.block < w.heap.size ∧ w.cell? (p.add j) = some u
theorem block_add (p : Addr) (j : Nat) : (p.add j).block = p.block := by
  unfold Addr.add
  split <;> rfl
theorem Sees.below {w w' : World} {size n : Nat} {v : Value} {cs : List Value} (h : Sees w size v n cs) (hb : Below w.heap.size w w') : Sees w' size v n cs := by
  rcases h with h | ⟨p, c, hv, hl, hc⟩
  · exact .inl h
  · refine .inr ⟨p, c, hv, hl, fun j u hu => ?_⟩
    obtain ⟨h1, h2⟩ := hc j u hu
    exact ⟨Nat.lt_of_lt_of_le h1 hb.size, (hb.cell (p := p.add j) (by rw [block_add]; exact h1)).trans h2⟩
/- What 'append(s, x...)' comes to where s is a row of the call's own and x shows its cells. -/
theorem wpList_append_sees {P : Program} {w : World} {ops : Array Oper} {rest : List Oper} {o : Oper} {a : Act} {Q : Exit → Act → World → Prop} (hgd : o.guard = none) (s x : Operand) (t : TypeId)
    (ho : o.op = .call { callee := .builtin .append, args := #[s, x], argTypes := #[t, t] })
    (base : Nat) (e : TypeId) (i : TypeInfo) (z : Value) (size bytes : Nat) (ht : P.underlying t = some (.slice e)) (hi : P.info? e = some i) (hz : i.zero = some z)
    (hsize : i.size = size) (hby : i.bytes = bytes) (hzs : z.cells.size = size) (hpos : 0 < size)
    (v : Value) (n : Nat) (xs : List Value) (hs : a.eval s = v) (hown : w.ownsRow base e size v n xs)
    (y : Value) (m : Nat) (ys : List Value) (hx : a.eval x = y) (hy : Sees w size y m ys) (hone : ∀ u ∈ ys, u.oneCell' = true)
    (hlen : n + m ≤ maxLen) (hroom : (n + m) * bytes ≤ 140737488355328) (hbase : base ≤ w.heap.size)
    (h : ∀ v' w', w'.ownsRow base e size v' (n + m) (xs ++ ys) → Below base w w' → wpList P ops Q rest (a.put o.dst v') w') : wpList P ops Q (o :: rest) a w := by
  have hrun : ∃ v' w', (Builtin.append_ #[t, t] o.type #[v, y]).run P w = .ok v' w' ∧ w'.ownsRow base e size v' (n + m) (xs ++ ys) ∧ w.grownBy w' v.ownBlock := by
    rcases hy with ⟨rfl, rfl, rfl⟩ | ⟨p, c, rfl, hl, hc⟩
    · exact ⟨v, w, run_append_owned_none w base t o.type e i size ht hi v n xs hown, by simpa using hown, World.grownBy.refl w _⟩
    · obtain ⟨v', w', h1, h2, h3, _, _⟩ := run_append_own_at (P := P) w base t o.type e i z size bytes ht hi hz hsize hby hzs hpos v n xs hown p m c ys hl (fun j u hu => (hc j u hu).2) hone hlen hroom hbase
      exact ⟨v', w', h1, h2, h3⟩
  obtain ⟨v', w', h1, h2, h3⟩ := hrun
  have hb : Below base w w' := (Below.refl base w).grown h3 hbase (fun k hk => (hown.lt k hk).1)
  refine wpList_plain hgd fun K hK => ?_
  unfold Oper.wp execOp
  simp only [ho, resolve, invoke, builtin, Sem.run_bind, Sem.run_pure, Result.andThen_ok, List.map_toArray, List.map_cons, List.map_nil, hs, hx, h1]
  exact hK _ _ (h v' w' h2 hb)

/- A list of bytes, and a slice of bytes that can be read: its bytes are zs. -/
def Bytes (zs : List Int) : Prop := ∀ z ∈ zs, 0 ≤ z ∧ z ≤ 255
def Row (w : World) (a : Option Addr) (len : Nat) (zs : List Int) : Prop :=
  zs.length = len ∧ Bytes zs ∧ (0 < len → ∃ b off, a = some ⟨b, off, none⟩ ∧ b < w.heap.size ∧ ∀ i, i < len → w.cell? ⟨b, off + i, none⟩ = some (.int .u8 (zs.getD i 0)))
def cellsOf (zs : List Int) : List Value := zs.map (Value.int .u8)
theorem cellsOf_append (xs ys : List Int) : cellsOf (xs ++ ys) = cellsOf xs ++ cellsOf ys := by simp [cellsOf]
theorem cellsOf_length (xs : List Int) : (cellsOf xs).length = xs.length := by simp [cellsOf]
theorem cellsOf_one (xs : List Int) : ∀ u ∈ cellsOf xs, u.oneCell' = true := by
  intro u hu
  simp only [cellsOf, List.mem_map] at hu
  obtain ⟨z, _, rfl⟩ := hu
  rfl
theorem cellsOf_get {xs : List Int} {j : Nat} (h : j < xs.length) : (cellsOf xs)[j]? = some (.int .u8 (xs.getD j 0)) := by
  simp [cellsOf, List.getD, h]
theorem cellsOf_set (xs : List Int) (j : Nat) (z : Int) : (cellsOf xs).set j (.int .u8 z) = cellsOf (xs.set j z) := by simp [cellsOf, List.map_set]
theorem bytes_append {xs ys : List Int} (hx : Bytes xs) (hy : Bytes ys) : Bytes (xs ++ ys) := by
  intro z hz
  rcases List.mem_append.mp hz with h | h
  · exact hx z h
  · exact hy z h
theorem bytes_nil : Bytes [] := by
  intro z hz
  cases hz
theorem getD_byte {zs : List Int} (h : Bytes zs) {i : Nat} (hi : i < zs.length) : 0 ≤ zs.getD i 0 ∧ zs.getD i 0 ≤ 255 := by
  have : zs.getD i 0 = zs[i] := by simp [List.getD, hi]
  rw [this]; exact h _ (List.getElem_mem hi)
theorem bytes_take {zs : List Int} (h : Bytes zs) (k : Nat) : Bytes (zs.take k) := fun z hz => h z (List.mem_of_mem_take hz)
theorem bytes_drop {zs : List Int} (h : Bytes zs) (k : Nat) : Bytes (zs.drop k) := fun z hz => h z (List.mem_of_mem_drop hz)
theorem bytes_set {zs : List Int} (h : Bytes zs) (k : Nat) {y : Int} (hy : 0 ≤ y ∧ y ≤ 255) : Bytes (zs.set k y) := by
  intro z hz
  rcases List.mem_or_eq_of_mem_set hz with h1 | rfl
  · exact h z h1
  · exact hy
theorem take_snoc (zs : List Int) (k : Nat) (h : k < zs.length) : zs.take (k + 1) = zs.take k ++ [zs.getD k 0] := by
  rw [List.take_succ_eq_append_getElem h]; simp [List.getD, h]
section
variable {w w' : World} {a : Option Addr} {len : Nat} {zs : List Int}
theorem Row.nil : Row w a 0 [] := ⟨rfl, bytes_nil, fun h => absurd h (by omega)⟩
theorem Row.below (h : Row w a len zs) (hb : Below w.heap.size w w') : Row w' a len zs := by
  refine ⟨h.1, h.2.1, fun hn => ?_⟩
  obtain ⟨b, off, rfl, hlt, hc⟩ := h.2.2 hn
  exact ⟨b, off, rfl, Nat.lt_of_lt_of_le hlt hb.size, fun i hi => (hb.cell (p := ⟨b, off + i, none⟩) hlt).trans (hc i hi)⟩
theorem add_none (b off i : Nat) : (⟨b, off, none⟩ : Addr).add i = ⟨b, off + i, none⟩ := by
  unfold Addr.add
  split
  · next h => subst h; rfl
  · rfl
theorem Row.sees {cap : Nat} (h : Row w a len zs) (hnil : a = none → cap = 0) : Sees w 1 (.slice a len cap) len (cellsOf zs) := by
  rcases a with _ | p
  · rcases Nat.eq_zero_or_pos len with h0 | h0
    · subst h0
      have hz : zs = [] := List.eq_nil_of_length_eq_zero h.1
      rw [hnil rfl, hz]
      exact .inl ⟨rfl, rfl, rfl⟩
    · obtain ⟨b, off, hn, _⟩ := h.2.2 h0
      cases hn
  · refine .inr ⟨p, cap, rfl, by rw [cellsOf_length, h.1, Nat.mul_one], fun j u hu => ?_⟩
    have hj : j < zs.length := by
      rcases Nat.lt_or_ge j zs.length with h1 | h1
      · exact h1
      · rw [List.getElem?_eq_none (by rw [cellsOf_length]; exact h1)] at hu
        cases hu
    have hjl : j < len := by rw [← h.1]; exact hj
    obtain ⟨b, off, hp, hlt, hc⟩ := h.2.2 (by omega)
    injection hp with hp
    subst hp
    rw [cellsOf_get hj] at hu
    exact ⟨hlt, by rw [add_none, hc j hjl]; exact hu⟩
theorem Row.of_own {base n : Nat} {e : TypeId} {v : Value} {xs : List Int} (hown : w.ownsRow base e 1 v n (cellsOf xs)) (hb : Bytes xs) :
    ∃ a cap, v = .slice a n cap ∧ Row w a n xs ∧ cap ≤ maxLen ∧ n ≤ cap ∧ (0 < n → ∃ g, a = some ⟨g, 0, none⟩ ∧ base ≤ g) := by
  have hl : xs.length = n := by have := hown.1; rw [cellsOf_length] at this; omega
  rcases hown.2 with ⟨rfl, rfl⟩ | ⟨g, cap, cur, rfl, hg, hh, hnc, hcm, hcs, ht⟩
  · exact ⟨none, 0, rfl, ⟨hl, hb, fun h => absurd h (by omega)⟩, by simp, by omega, fun h => absurd h (by omega)⟩
  · refine ⟨some ⟨g, 0, none⟩, cap, rfl, ⟨hl, hb, fun hn => ⟨g, 0, rfl, ?_, fun i hi => ?_⟩⟩, hcm, hnc, fun _ => ⟨g, rfl, hg⟩⟩
    · exact (hown.lt g rfl).2
    · have h1 := hown.cellAt i (by omega)
      rw [Nat.zero_add, h1, cellsOf_get (by omega)]
end
/- What the shell of a law says of a slice of bytes that came in gives such a row. -/
theorem row_of_cells {w : World} {a : Option Addr} {len cap : Nat} {zs : List Int}
    (h : (a = none ∧ len = 0 ∧ cap = 0 ∧ zs = []) ∨
      ∃ x, a = some x ∧ len ≤ cap ∧ cap ≤ maxLen ∧ zs.length = cap ∧ (∀ i, i < zs.length → w.cell? (x.add i) = some (.int .u8 (zs.getD i 0))) ∧ ∀ n ∈ zs, (Lit.int .u8 n).wf = true) :
    Row w a len (zs.take len) ∧ len ≤ maxLen ∧ (a = none → cap = 0) := by
  rcases h with ⟨rfl, rfl, rfl, rfl⟩ | ⟨x, rfl, hl, hm, hz, hcell, hwz⟩
  · exact ⟨Row.nil, by simp, fun _ => rfl⟩
  · refine ⟨⟨by rw [List.length_take]; omega, ?_, fun hn => ?_⟩, by omega, fun h => by cases h⟩
    · intro z hzm
      have := hwz z (List.mem_of_mem_take hzm)
      simpa [Lit.wf, IntKind.min, IntKind.max, IntKind.signed, IntKind.bits] using this
    · obtain ⟨b, off, spot⟩ := x
      have h0 := hcell 0 (by omega)
      have hspot : spot = none := by simpa [Addr.add] using World.cell?_spot h0
      subst hspot
      refine ⟨b, off, rfl, ?_, fun i hi => ?_⟩
      · exact block_lt_of_cell (a := ⟨b, off, none⟩) (by simpa [Addr.add] using h0)
      · have h1 := hcell i (by omega)
        rw [add_none] at h1
        rw [h1]
        congr 2
        simp [List.getD, hi]
end Go.Proofs.Ytbdbbnpkekcefaa.Mem
