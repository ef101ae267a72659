/- Words on layer 2's readers that the layers above it use. (These stand in PackUp, PackPuts, PackBack and PackReads too: import those or this.) -/
import Derived.Test.YtbdbbnpkekcefaaPackRefText
namespace Go.Proofs.Ytbdbbnpkekcefaa.Pack
open Go.Proofs.Ytbdbbnpkekcefaa.Mem
open Go.ChangeShapes Go.WideShapes Go.ChangeAt Go.RowKit
set_option linter.unusedVariables false

theorem Rd.below {w w' : World} {p D : Nat} {zs : List Int} {short : Bool} (h : Rd w p D zs short) (hb : Below w.heap.size w w') : Rd w' p D zs short := by
  refine h.but (S := fun _ => False) ((But.of_below hb).mono (fun i hi hs => by omega)) (fun h => h) (fun h => h)
theorem Rf.below {w w' : World} {q bd : Nat} {zs : List Int} {short : Bool} (h : Rf w q bd zs short) (hb : Below w.heap.size w w') : Rf w' q bd zs short := by
  refine h.but (S := fun _ => False) ((But.of_below hb).mono (fun i hi hs => by omega)) (fun h => h) (fun _ _ h => h)
theorem quiet_same {P : Program} {f : FuncId} {args : Array Value} {w : World} {n : Nat} {v : Value} (h : Calls P f args (w.drewN n) fun e w' => e = .returned v ∧ w.drewN n = w') : Calls P f args (w.drewN n) fun e w'' => e = .returned v ∧ ∃ m, w'' = w.drewN m :=
  h.mono fun _ _ h => ⟨h.1, n, h.2.symm⟩
theorem Row.drewN {w : World} {a : Option Addr} {len : Nat} {zs : List Int} (h : Row w a len zs) (n : Nat) : Row (w.drewN n) a len zs := h.but (S := fun _ => False) ((But.refl _ w).drewN n) (fun _ _ _ h => h)
theorem Rd.drewN {w : World} {p D : Nat} {zs : List Int} {short : Bool} (h : Rd w p D zs short) (n : Nat) : Rd (w.drewN n) p D zs short := h.but (S := fun _ => False) ((But.refl _ w).drewN n) (fun h => h) (fun h => h)
theorem Rf.drewN {w : World} {q bd : Nat} {zs : List Int} {short : Bool} (h : Rf w q bd zs short) (n : Nat) : Rf (w.drewN n) q bd zs short := h.but (S := fun _ => False) ((But.refl _ w).drewN n) (fun h => h) (fun _ _ h => h)
theorem Rf.short {w : World} {q bd : Nat} {zs : List Int} {short : Bool} (h : Rf w q bd zs short) : w.cell? ⟨q, 2, none⟩ = some (.bool short) := by
  obtain ⟨B, at', a, cap, h0, h1, h2, _⟩ := h
  exact h2
theorem rf_new (w : World) (a : Option Addr) (zs : List Int) (cap : Nat) (hr : Row w a zs.length zs) (hlc : zs.length ≤ cap) (hcm : cap ≤ maxLen) (hB : zs.length ≤ 1073741824) (hnil : a = none → cap = 0) (bd : Nat) (hbd : ∀ x, a = some x → 0 < zs.length → x.block < bd) (t : TypeId) :
    Rf (w.alloc (.cells #[.slice a zs.length cap, .int .i64 0, .bool false] t)) w.heap.size bd zs false := by
  refine ⟨zs, 0, a, cap, ?_, ?_, ?_, ?_, ?_, hr.below ((Below.refl _ _).alloc (Nat.le_refl _) _), hlc, hcm, hB, Nat.zero_le _, ?_, hnil, .inr ⟨rfl, rfl⟩⟩
  · rw [World.cell?_alloc_at _ _ _ _ rfl]; rfl
  · rw [World.cell?_alloc_at _ _ _ _ rfl]; rfl
  · rw [World.cell?_alloc_at _ _ _ _ rfl]; rfl
  · rw [World.frozen?_alloc_at _ _ _ _ rfl]
  · rw [World.frozen?_alloc_at _ _ _ _ rfl]
  · intro p hp hn
    obtain ⟨b, off, he, hlt, _⟩ := hr.2.2 hn
    rw [hp] at he
    injection he with he
    subst he
    exact ⟨Nat.ne_of_lt hlt, hbd _ hp hn⟩
theorem got_front {xs : List Int} (ys : List Int) {k : Nat} (h : xs.length = k) : got (xs ++ ys) k = xs := by
  subst h
  unfold got
  rw [if_pos (by simp)]
  exact List.take_left
theorem left_front {xs : List Int} (ys : List Int) {k : Nat} (h : xs.length = k) : left (xs ++ ys) k = ys := by
  subst h
  unfold left
  rw [if_pos (by simp)]
  exact List.drop_left
theorem short_front {xs : List Int} (ys : List Int) {k : Nat} (h : xs.length = k) (s : Bool) : shortBy (xs ++ ys) k s = s := by
  subst h
  exact if_pos (by simp)
/- What was put as a text is read as it was. -/
theorem textLen_front (s : ByteArray) (hs : s.size ≤ 65535) (ys : List Int) : textLen (put s.size 2 ++ (strBytes s ++ ys)) = s.size := by
  unfold textLen
  rw [got_front _ (put_length _ _), num_put]
  exact Nat.mod_eq_of_lt (by omega)
theorem textGot_front (s : ByteArray) (hs : s.size ≤ 65535) (ys : List Int) : textGot (put s.size 2 ++ (strBytes s ++ ys)) = strBytes s := by
  unfold textGot
  rw [textLen_front s hs, left_front _ (put_length _ _), got_front _ (strBytes_length s)]
theorem textLeft_front (s : ByteArray) (hs : s.size ≤ 65535) (ys : List Int) : textLeft (put s.size 2 ++ (strBytes s ++ ys)) = ys := by
  unfold textLeft
  rw [textLen_front s hs, left_front _ (put_length _ _), left_front _ (strBytes_length s)]
theorem textShort_front (s : ByteArray) (hs : s.size ≤ 65535) (ys : List Int) (b : Bool) : textShort (put s.size 2 ++ (strBytes s ++ ys)) b = b := by
  unfold textShort
  rw [textLen_front s hs, left_front _ (put_length _ _), short_front _ (strBytes_length s), short_front _ (put_length _ _)]
/- A part of a row is a row. -/
theorem Row.part {w : World} {b off len : Nat} {zs : List Int} (h : Row w (some ⟨b, off, none⟩) len zs) (i k : Nat) (hik : i + k ≤ len) (a : Option Addr) (ha : 0 < k → a = some ⟨b, off + i, none⟩) : Row w a k ((zs.drop i).take k) := by
  have hl : ((zs.drop i).take k).length = k := by rw [List.length_take, List.length_drop, h.1]; omega
  refine ⟨hl, bytes_take (bytes_drop h.2.1 i) k, fun h0 => ?_⟩
  obtain ⟨b', o, hq, hlt, hc⟩ := h.2.2 (by omega)
  injection hq with hq
  injection hq with hq1 hq2
  subst hq1 hq2
  refine ⟨b, off + i, ha h0, hlt, fun j hj => ?_⟩
  have := hc (i + j) (by omega)
  rw [← Nat.add_assoc] at this
  rw [this]
  simp [List.getD, List.getElem?_drop, hj]
end Go.Proofs.Ytbdbbnpkekcefaa.Pack
