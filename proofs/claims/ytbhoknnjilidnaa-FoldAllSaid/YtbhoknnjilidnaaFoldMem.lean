/- Slices of keys in memory. -/
import Derived.Test.YtbhoknnjilidnaaFoldMath
import Derived.Test.YtbhoknnjilidnaaOwn
import Derived.Test.YtbhoknnjilidnaaProg
import Derived.Lib.OwnBridge
import Derived.Handy
import Derived.WalkKit
import Derived.Deep.QuietTactic
import Derived.BigQuiet
import Derived.Lib.Hide
namespace Go.Proofs.Ytbhoknnjilidnaa.Fold
open Go.Proofs.Ytbhoknnjilidnaa.Mem
open Go.ChangeShapes Go.WideShapes Go.ChangeAt Go.RowKit
open Go.Proofs (encStr)
set_option linter.unusedVariables false
set_option linter.unusedSimpArgs false
theorem less_eq : ∀ (x y : List UInt8), Op.bytesLess x y = decide (x < y)
  | [], [] => by simp [Op.bytesLess]
  | _ :: _, [] => by simp [Op.bytesLess]
  | [], _ :: _ => by simp [Op.bytesLess]
  | a :: x, b :: y => by
    rw [Op.bytesLess, less_eq x y]
    by_cases h : a < b
    · simp [h, List.cons_lt_cons_iff]
    · by_cases e : a = b
      · subst e
        simp [List.cons_lt_cons_iff]
      · simp [h, e, List.cons_lt_cons_iff]
def tx (k : K) : ByteArray := ⟨k.toArray⟩
theorem tx_list (k : K) : (tx k).toList = k := by rw [ByteArray.toList_eq]; rfl
theorem tx_of (s : ByteArray) : tx s.data.toList = s := by cases s; simp [tx]
theorem tx_inj {a b : K} (h : tx a = tx b) : a = b := by rw [← tx_list a, ← tx_list b, h]
theorem less_tx (a b : K) : Op.bytesLess (tx a).toList (tx b).toList = decide (a < b) := by rw [tx_list, tx_list, less_eq]
theorem same_tx (a b : K) : ((tx a).toList == (tx b).toList) = decide (a = b) := by rw [tx_list, tx_list]; by_cases h : a = b <;> simp [h]
theorem more_tx (a b : K) : (!(Op.bytesLess (tx a).toList (tx b).toList || (tx a).toList == (tx b).toList)) = decide (b < a) := by
  rw [less_tx, same_tx]
  by_cases h : a < b
  · have h2 : ¬ b < a := fun h3 => lt_irr _ (lt_tr h h3)
    simp [h, h2]
  · by_cases e : a = b
    · subst e
      have h2 := lt_irr a
      simp [h2]
    · have h2 : b < a := Std.lt_of_le_of_ne (Std.not_lt.1 h) (fun e2 => e e2.symm)
      simp [h, e, h2]
/- A slice that shows the keys ks. -/
def Ks (w : World) (a : Option Addr) (ks : List K) : Prop :=
  0 < ks.length → ∃ b off, a = some ⟨b, off, none⟩ ∧ b < w.heap.size ∧ ∀ i (h : i < ks.length), w.cell? ⟨b, off + i, none⟩ = some (.string (tx ks[i]))
theorem Ks.below {w w' : World} {a : Option Addr} {ks : List K} (h : Ks w a ks) (hb : Below w.heap.size w w') : Ks w' a ks := fun hn => by
  obtain ⟨b, off, ha, hlt, hc⟩ := h hn
  exact ⟨b, off, ha, Nat.lt_of_lt_of_le hlt hb.size, fun i hi => (hb.cell (p := ⟨b, off + i, none⟩) hlt).trans (hc i hi)⟩
theorem Ks.draw {w : World} {a : Option Addr} {ks : List K} (h : Ks w a ks) (n : Nat) : Ks (w.drewN n) a ks := h
def kcells (ks : List K) : List Value := ks.map fun k => .string (tx k)
theorem kcells_enc (ks : List K) : kcells ks = ks.map encStr := rfl
theorem kcells_length (ks : List K) : (kcells ks).length = ks.length := by simp [kcells]
theorem kcells_app (a b : List K) : kcells (a ++ b) = kcells a ++ kcells b := by simp [kcells]
theorem kcells_take (a : List K) (n : Nat) : (kcells a).take n = kcells (a.take n) := by simp [kcells]
theorem kcells_one (ks : List K) : ∀ u ∈ kcells ks, u.oneCell' = true := by
  intro u hu
  obtain ⟨k, _, rfl⟩ := List.mem_map.1 hu
  rfl
/- A row of the call's own. -/
def KOwn (w : World) (B : Nat) (v : Value) (ks : List K) : Prop := w.ownsRow B 9 1 v ks.length (kcells ks)
theorem KOwn.nil (w : World) (B : Nat) : KOwn w B (.slice none 0 0) [] := w.ownsRow_nil B _ 1
theorem KOwn.slice {w : World} {B : Nat} {v : Value} {ks : List K} (h : KOwn w B v ks) : ∃ a c, v = .slice a ks.length c ∧ Ks w a ks ∧ ks.length ≤ c ∧ c ≤ maxLen ∧ (a = none → c = 0) ∧ (∀ q, a = some q → B ≤ q.block ∧ q.block < w.heap.size ∧ q.off = 0 ∧ q.spot = none) := by
  rcases h.2 with ⟨rfl, h0⟩ | ⟨g, cap, cur, rfl, hg, hh, hnc, hcm, hcs, ht⟩
  · rw [h0]
    exact ⟨none, 0, rfl, fun h => absurd h (by omega), Nat.le_refl _, Nat.zero_le _, fun _ => rfl, fun q hq => by cases hq⟩
  · have hlt := (World.ownsRow.lt h g rfl).2
    refine ⟨some ⟨g, 0, none⟩, cap, rfl, fun hn => ⟨g, 0, rfl, hlt, fun i hi => ?_⟩, hnc, hcm, fun h => by (cases h), fun q hq => by cases hq; exact ⟨hg, hlt, rfl, rfl⟩⟩
    have h1 := World.ownsRow.cellAt h i (by omega)
    rw [Nat.zero_add, h1]
    simp [kcells, hi]
theorem KOwn.lt {w : World} {B : Nat} {v : Value} {ks : List K} (h : KOwn w B v ks) : ∀ k, v.ownBlock = some k → B ≤ k ∧ k < w.heap.size := World.ownsRow.lt h
theorem KOwn.but {S : Nat → Prop} {w w' : World} {B : Nat} {v : Value} {ks : List K} (h : KOwn w B v ks) (hb : But S w w') (hs : ∀ k, v.ownBlock = some k → ¬ S k) : KOwn w' B v ks := ownsRow_but h hb hs
theorem KOwn.new {w w' : World} {B : Nat} {v : Value} {ks : List K} (h : KOwn w B v ks) (hb : Below w.heap.size w w') : KOwn w' B v ks := h.but (But.of_new hb (S := fun _ => False)) (fun _ _ h => h)
theorem KOwn.base {w : World} {B B' : Nat} {v : Value} {ks : List K} (h : KOwn w B v ks) (hb : B' ≤ B) : KOwn w B' v ks := by
  refine ⟨h.1, ?_⟩
  rcases h.2 with h2 | ⟨g, cap, cur, h1, hg, r⟩
  · exact .inl h2
  · exact .inr ⟨g, cap, cur, h1, by omega, r⟩
theorem KOwn.take {w : World} {B c : Nat} {a : Option Addr} {ks : List K} (h : KOwn w B (.slice a ks.length c) ks) {m : Nat} (hm : m ≤ ks.length) : KOwn w B (.slice a m c) (ks.take m) := by
  have hl : (ks.take m).length = m := by rw [List.length_take]; omega
  unfold KOwn
  rw [hl]
  refine ⟨by rw [kcells_length, hl, Nat.mul_one], ?_⟩
  rcases h.2 with ⟨e, h0⟩ | ⟨g, cap, cur, e, hg, hh, hnc, hcm, hcs, ht⟩
  · have : m = 0 := by omega
    subst this
    injection e with e1 e2 e3
    subst e1; subst e3
    exact .inl ⟨rfl, rfl⟩
  · injection e with e1 e2 e3
    subst e1; subst e3
    refine .inr ⟨g, c, cur, rfl, hg, hh, by omega, hcm, hcs, ?_⟩
    rw [← kcells_take, ← ht, List.take_take]
    congr 1
    omega
theorem str_info : (Try.prog.info? 9).map (fun i => (i.zero, i.size, i.bytes)) = some (some (.string ⟨#[]⟩), 1, 16) := by kernel_rfl
theorem Ks.sees {w : World} {a : Option Addr} {ks : List K} {c : Nat} (h : Ks w a ks) (hn : a = none → c = 0) : Sees w 1 (.slice a ks.length c) ks.length (kcells ks) := by
  rcases a with _ | p
  · rcases Nat.eq_zero_or_pos ks.length with h0 | h0
    · have hz : ks = [] := List.eq_nil_of_length_eq_zero h0
      subst hz
      rw [hn rfl]
      exact .inl ⟨rfl, rfl, rfl⟩
    · obtain ⟨b, off, hq, _⟩ := h h0
      cases hq
  · refine .inr ⟨p, c, rfl, by rw [kcells_length, Nat.mul_one], fun j u hu => ?_⟩
    have hj : j < ks.length := by
      rw [← kcells_length ks]
      exact (List.getElem?_eq_some_iff.1 hu).1
    obtain ⟨b, off, hp, hlt, hc⟩ := h (by omega)
    injection hp with hp
    subst hp
    have : (kcells ks)[j]? = some (.string (tx ks[j])) := by simp [kcells, hj]
    rw [this] at hu
    exact ⟨hlt, by rw [add_none, hc j hj]; exact hu⟩
theorem Ks.drop {w : World} {b off : Nat} {ks : List K} (h : Ks w (some ⟨b, off, none⟩) ks) {m : Nat} (hm : m ≤ ks.length) : Ks w (some ⟨b, off + m, none⟩) (ks.drop m) := fun hn => by
  rw [List.length_drop] at hn
  obtain ⟨b', off', ha, hlt, hc⟩ := h (by omega)
  injection ha with ha
  injection ha with h1 h2
  subst h1; subst h2
  refine ⟨b, off + m, rfl, hlt, fun i hi => ?_⟩
  rw [List.length_drop] at hi
  rw [List.getElem_drop, Nat.add_assoc]
  exact hc (m + i) (by omega)
theorem Ks.take {w : World} {a : Option Addr} {ks : List K} (h : Ks w a ks) (m : Nat) : Ks w a (ks.take m) := fun hn => by
  rw [List.length_take] at hn
  obtain ⟨b, off, ha, hlt, hc⟩ := h (by omega)
  refine ⟨b, off, ha, hlt, fun i hi => ?_⟩
  rw [List.length_take] at hi
  rw [List.getElem_take]
  exact hc i (by omega)
end Go.Proofs.Ytbhoknnjilidnaa.Fold
