/- Contracts of the reference's reader: they answer as the reader of layer 2 does. -/
import Derived.Test.YtbdbbnpkekcefaaPackRead
namespace Go.Proofs.Ytbdbbnpkekcefaa.Pack
open Go.Proofs.Ytbdbbnpkekcefaa.Mem
open Go.ChangeShapes Go.WideShapes Go.ChangeAt Go.RowKit
set_option linter.unusedVariables false

/- The reference's reader at block q, with the bytes that are left. -/
def Rf (w : World) (q bd : Nat) (zs : List Int) (short : Bool) : Prop :=
  ∃ (B : List Int) (at' : Nat) (a : Option Addr) (cap : Nat), w.cell? ⟨q, 0, none⟩ = some (.slice a B.length cap) ∧ w.cell? ⟨q, 1, none⟩ = some (.int .i64 (at' : Int)) ∧ w.cell? ⟨q, 2, none⟩ = some (.bool short) ∧
    w.frozen? ⟨q, 1, none⟩ = false ∧ w.frozen? ⟨q, 2, none⟩ = false ∧ Row w a B.length B ∧ B.length ≤ cap ∧ cap ≤ maxLen ∧ B.length ≤ 1073741824 ∧ at' ≤ B.length ∧ (∀ p, a = some p → 0 < B.length → p.block ≠ q ∧ p.block < bd) ∧
    (a = none → cap = 0) ∧ ((short = true ∧ zs = []) ∨ (short = false ∧ zs = B.drop at'))

set_option maxRecDepth 100000 in
set_option maxHeartbeats 1000000 in
theorem refNumber_none (q : Nat) (k : Int) (h : k < 1 ∨ 8 < k) (w : World) :
    Calls Try.prog 24 #[.pointer (some ⟨q, 0, none⟩), .int .i64 k] w fun e w' => e = .returned (.int .u64 0) ∧ w = w' := by
  by_cases h1 : k < 1
  · go_enter Try.func24, Try.ntmps24
    go_wp2
    go_ret
    exact ⟨rfl, rfl⟩
  · have h8 : 8 < k := by omega
    go_enter Try.func24, Try.ntmps24
    go_wp2
    go_ret
    exact ⟨rfl, rfl⟩
theorem num_round {zs : List Int} {k j : Nat} (hk : k ≤ 8) (hl : zs.length = k) (hb : Bytes zs) (hj : j + 1 ≤ k) : 256 * num (zs.drop (j + 1)) + (zs.getD j 0).toNat = num (zs.drop j) ∧ num (zs.drop j) < 18446744073709551616 := by
  refine ⟨by rw [num_cons zs j (by omega)]; omega, ?_⟩
  have h1 := num_lt (bytes_drop hb j)
  have h2 : 256 ^ (zs.drop j).length ≤ 256 ^ 8 := pow256_le (by simp; omega)
  have h3 : (256 : Nat) ^ 8 = 18446744073709551616 := by decide
  omega
theorem rf_step {w : World} {q bd : Nat} {B : List Int} {at1 at' : Nat} {a : Option Addr} {cap : Nat} (m : Nat) (h0 : w.cell? ⟨q, 0, none⟩ = some (.slice a B.length cap)) (h1 : w.cell? ⟨q, 1, none⟩ = some (.int .i64 (at1 : Int))) (h2 : w.cell? ⟨q, 2, none⟩ = some (.bool false))
    (f1 : w.frozen? ⟨q, 1, none⟩ = false) (f2 : w.frozen? ⟨q, 2, none⟩ = false) (hr : Row w a B.length B) (hlc : B.length ≤ cap) (hcm : cap ≤ maxLen) (hB : B.length ≤ 1073741824) (hat : at' ≤ B.length) (hne : ∀ p, a = some p → 0 < B.length → p.block ≠ q ∧ p.block < bd) (hnil : a = none → cap = 0) :
    Rf ((w.drewN m).setCell ⟨q, 1, none⟩ (.int .i64 (at' : Int))) q bd (B.drop at') false := by
  have hd : Row (w.drewN m) a B.length B := hr.but (S := fun _ => False) ((But.refl _ w).drewN m) (fun _ _ _ h => h)
  exact ⟨B, at', a, cap, cell_ne (w := w.drewN m) h0 (by simp), World.cell?_setCell_same (w.drewN m) _ _ h1, cell_ne (w := w.drewN m) h2 (by simp), by rw [World.frozen?_setCell]; exact f1, by rw [World.frozen?_setCell]; exact f2,
    row_setCell hd _ (fun p hp hn => (hne p hp hn).1), hlc, hcm, hB, hat, hne, hnil, .inr ⟨rfl, rfl⟩⟩
theorem rf_short {w : World} {q bd : Nat} {B : List Int} {at' : Nat} {a : Option Addr} {cap : Nat} {u : Value} (m : Nat) (h0 : w.cell? ⟨q, 0, none⟩ = some (.slice a B.length cap)) (h1 : w.cell? ⟨q, 1, none⟩ = some (.int .i64 (at' : Int))) (h2 : w.cell? ⟨q, 2, none⟩ = some u)
    (f1 : w.frozen? ⟨q, 1, none⟩ = false) (f2 : w.frozen? ⟨q, 2, none⟩ = false) (hr : Row w a B.length B) (hlc : B.length ≤ cap) (hcm : cap ≤ maxLen) (hB : B.length ≤ 1073741824) (hat : at' ≤ B.length) (hne : ∀ p, a = some p → 0 < B.length → p.block ≠ q ∧ p.block < bd) (hnil : a = none → cap = 0) :
    Rf ((w.drewN m).setCell ⟨q, 2, none⟩ (.bool true)) q bd [] true := by
  have hd : Row (w.drewN m) a B.length B := hr.but (S := fun _ => False) ((But.refl _ w).drewN m) (fun _ _ _ h => h)
  exact ⟨B, at', a, cap, cell_ne (w := w.drewN m) h0 (by simp), cell_ne (w := w.drewN m) h1 (by simp), World.cell?_setCell_same (w.drewN m) _ _ h2, by rw [World.frozen?_setCell]; exact f1, by rw [World.frozen?_setCell]; exact f2,
    row_setCell hd _ (fun p hp hn => (hne p hp hn).1), hlc, hcm, hB, hat, hne, hnil, .inl ⟨rfl, rfl⟩⟩
set_option maxRecDepth 100000 in
set_option maxHeartbeats 1000000 in
theorem refNumber_any (q : Nat) {bd : Nat} (zs : List Int) (short : Bool) (k : Nat) (hk1 : 1 ≤ k) (hk8 : k ≤ 8) (w : World) (h : Rf w q bd zs short) :
    Calls Try.prog 24 #[.pointer (some ⟨q, 0, none⟩), .int .i64 (k : Int)] w fun e w' => e = .returned (.int .u64 ((num (got zs k) : Nat) : Int)) ∧ Rf w' q bd (left zs k) (shortBy zs k short) ∧ But (fun b => b = q) w w' := by
  obtain ⟨B, at', a, cap, h0, h1, h2, f1, f2, hr, hlc, hcm, hB, hat, hne, hnil, hz⟩ := h
  rcases hz with ⟨rfl, rfl⟩ | ⟨rfl, rfl⟩
  · have e1 : got [] k = [] := by unfold got; split <;> simp
    have e2 : left [] k = [] := by unfold left; split <;> simp
    have e3 : shortBy [] k true = true := by unfold shortBy; split <;> rfl
    rw [e1, e2, e3]
    clear e1 e2 e3
    have hn1 : ¬ ((k : Int) < 1) := by omega
    have hn8 : ¬ (8 < (k : Int)) := by omega
    go_enter Try.func24, Try.ntmps24
    go_wp2
    go_ret
    exact ⟨rfl, ⟨B, at', a, cap, h0, h1, h2, f1, f2, hr, hlc, hcm, hB, hat, hne, hnil, .inl ⟨rfl, rfl⟩⟩, But.refl _ _⟩
  · have hdl : (B.drop at').length = B.length - at' := by simp
    by_cases hk : k ≤ B.length - at'
    · have e1 : got (B.drop at') k = (B.drop at').take k := if_pos (by omega)
      have e2 : left (B.drop at') k = B.drop (at' + k) := by rw [left, if_pos (by omega), List.drop_drop]
      have e3 : shortBy (B.drop at') k false = false := if_pos (by omega)
      rw [e1, e2, e3]
      clear e1 e2 e3
      obtain ⟨ys, hys⟩ : ∃ ys, ys = (B.drop at').take k := ⟨_, rfl⟩
      have hyl : ys.length = k := by rw [hys, List.length_take, hdl]; omega
      have hyb : Bytes ys := by rw [hys]; exact bytes_take (bytes_drop hr.2.1 _) _
      have hyg : ∀ i, i < k → B.getD (at' + i) 0 = ys.getD i 0 := by
        intro i hi
        rw [hys]
        simp [List.getD, hi, List.getElem?_drop]
      rw [← hys]
      clear hys
      obtain ⟨b, off, rfl, hblt, hcell⟩ := hr.2.2 (by omega)
      have HC := Lib.hid hcell
      clear hcell
      go_enter Try.func24, Try.ntmps24
      go_wp2
      go_quiet (fail)
      go_wp2
      go_loopw [5, 6] (fun n i wr => ∃ j m : Nat, j ≤ k ∧ i = .int .i64 ((j : Int) - 1) ∧ n = .int .u64 ((num (ys.drop j) : Nat) : Int) ∧ wr = w.drewN m) (fun _ i _ => (intOf i + 1).toNat)
      case atStart => exact ⟨k, _, by omega, rfl, by rw [List.drop_of_length_le (by omega)]; rfl, rfl⟩
      case round =>
        obtain ⟨j, m, hj, rfl, rfl, rfl⟩ := hrel
        rcases j with _ | j
        · have e0 : ((0 : Nat) : Int) - 1 = -1 := rfl
          rw [e0]
          have hd0 : ys.drop 0 = ys := rfl
          rw [hd0]
          clear hd0 e0
          have HYG := Lib.hid hyg
          clear hyg
          go_wp2
          go_ret
          have e5 : (at' : Int) + (k : Int) = ((at' + k : Nat) : Int) := by omega
          rw [e5]
          refine ⟨rfl, ?_, (((But.refl (fun b => b = q) w).drewN m).setCell (p := ⟨q, 1, none⟩) rfl _)⟩
          exact rf_step _ h0 h1 h2 f1 f2 hr hlc hcm hB (by omega) hne hnil
        · have e0 : (((j + 1 : Nat)) : Int) - 1 = (j : Int) := by omega
          rw [e0]
          clear e0
          obtain ⟨hr1, hr2⟩ := num_round hk8 hyl hyb hj
          have hzb := getD_byte hyb (i := j) (by omega)
          obtain ⟨c, hcb, hce⟩ : ∃ c : Nat, c < 256 ∧ ys.getD j 0 = (c : Int) := ⟨(ys.getD j 0).toNat, by omega, by omega⟩
          rw [hce] at hr1
          have hk0 := HC.out (at' + j) (by omega)
          rw [hyg j (by omega), hce] at hk0
          have HYG := Lib.hid hyg
          have HCE := Lib.hid hce
          clear hyg hce hzb
          obtain ⟨N, hN⟩ : ∃ N, N = num (ys.drop (j + 1)) := ⟨_, rfl⟩
          rw [← hN] at hr1 ⊢
          have HN := Lib.hid hN
          clear hN
          rw [Int.toNat_natCast] at hr1
          have hlt0 : (at' : Int) + (j : Int) < (B.length : Int) := by omega
          have hge0 : (0 : Int) ≤ (at' : Int) + (j : Int) := by omega
          have htn : ((at' : Int) + (j : Int)).toNat = at' + j := by omega
          have HR1 := Lib.hid hr1
          have hr3 : 256 * N + c < 18446744073709551616 := by omega
          clear hr1 hr2
          go_wp2
          go_quiet (fail)
          go_wp2
          go_roundw
          case rel => exact ⟨j, _, by omega, rfl, val_int (by rw [← HR1.out]; omega), rfl⟩
          case measure => simp [intOf]
    · have e1 : got (B.drop at') k = [] := if_neg (by omega)
      have e2 : left (B.drop at') k = [] := if_neg (by omega)
      have e3 : shortBy (B.drop at') k false = true := if_neg (by omega)
      rw [e1, e2, e3]
      clear e1 e2 e3
      go_enter Try.func24, Try.ntmps24
      go_wp2
      go_quiet (fail)
      go_wp2
      go_ret
      exact ⟨rfl, rf_short _ h0 h1 h2 f1 f2 hr hlc hcm hB hat hne hnil, (((But.refl (fun b => b = q) w).drewN _).setCell (p := ⟨q, 2, none⟩) rfl _)⟩
set_option maxRecDepth 100000 in
set_option maxHeartbeats 1000000 in
theorem refLeft_any (q : Nat) {bd : Nat} (zs : List Int) (short : Bool) (w : World) (h : Rf w q bd zs short) :
    Calls Try.prog 30 #[.pointer (some ⟨q, 0, none⟩)] w fun e w' => e = .returned (.int .i64 (zs.length : Int)) ∧ ∃ m, w' = w.drewN m := by
  obtain ⟨B, at', a, cap, h0, h1, h2, f1, f2, hr, hlc, hcm, hB, hat, hne, hnil, hz⟩ := h
  rcases hz with ⟨rfl, rfl⟩ | ⟨rfl, rfl⟩
  · go_enter Try.func30, Try.ntmps30
    go_wp2
    go_ret
    exact ⟨rfl, 0, rfl⟩
  · have hdl : (B.drop at').length = B.length - at' := by simp
    rw [hdl]
    clear hdl
    go_enter Try.func30, Try.ntmps30
    go_wp2
    go_quiet (fail)
    go_wp2
    go_ret
    exact ⟨ret_int (by omega), _, rfl⟩
end Go.Proofs.Ytbdbbnpkekcefaa.Pack
