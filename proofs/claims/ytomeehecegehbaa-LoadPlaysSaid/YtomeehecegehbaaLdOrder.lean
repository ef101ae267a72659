/- Which of two buckets goes ahead: by falling sums of both parts, then by rising numbers. -/
import Derived.Test.YtomeehecegehbaaLdSum
import Derived.Sort.Statements
import Derived.Sort.Walk13a
namespace Go.Proofs.Ytomeehecegehbaa.Ld
open Go.Proofs.Ytomeehecegehbaa.Mem
open Go.ChangeShapes Go.WideShapes Go.ChangeAt Go.RowKit
set_option linter.unusedVariables false
set_option linter.unusedSimpArgs false
def tot (f : Int → Pr) (x : Int) : Nat := (f x).1 + (f x).2
def cf (f : Int → Pr) (x y : Int) : Int := if tot f y < tot f x then -1 else if tot f x < tot f y then 1 else if x < y then -1 else if y < x then 1 else 0
/- x goes ahead of y. -/
theorem cf_neg (f : Int → Pr) (x y : Int) : cf f x y < 0 ↔ tot f y < tot f x ∨ tot f x = tot f y ∧ x < y := by
  unfold cf
  split
  · omega
  · split
    · omega
    · split
      · omega
      · split <;> omega
def sgn (a b : Nat) : Int := if a < b then -1 else if b < a then 1 else 0
def sgnI (a b : Int) : Int := if a < b then -1 else if b < a then 1 else 0
set_option maxRecDepth 100000 in
theorem cmpI_any (a b : Int) (w : World) : Calls Try.prog 20 #[.int .i64 a, .int .i64 b] w fun e w' => e = .returned (.int .i64 (sgnI a b)) ∧ w = w' := by
  have hn : ∀ (x : Int) (w : World), Calls Try.prog 27 #[.int .i64 x] w fun e w' => e = .returned (.bool false) ∧ w = w' := by
    intro x w
    have hx : (x != x) = false := by simp
    go_enter Try.func27, Try.ntmps27
    go_wp2
    go_ret
    exact ⟨by simp, rfl⟩
  have H := Lib.hid hn
  clear hn
  unfold sgnI
  by_cases h1 : a < b
  · rw [if_pos h1]
    go_enter Try.func20, Try.ntmps20
    go_wp2_with (first | (go_at_call 27; refine (H.out _ _).mono ?_; rintro e w1 ⟨rfl, rfl⟩))
    go_ret
    exact ⟨rfl, rfl⟩
  · by_cases h2 : b < a
    · rw [if_neg h1, if_pos h2]
      go_enter Try.func20, Try.ntmps20
      go_wp2_with (first | (go_at_call 27; refine (H.out _ _).mono ?_; rintro e w1 ⟨rfl, rfl⟩))
      go_ret
      exact ⟨rfl, rfl⟩
    · rw [if_neg h1, if_neg h2]
      go_enter Try.func20, Try.ntmps20
      go_wp2_with (first | (go_at_call 27; refine (H.out _ _).mono ?_; rintro e w1 ⟨rfl, rfl⟩))
      go_ret
      exact ⟨rfl, rfl⟩
theorem order_ne {a : Nat} (ha : a < 9007199254740992) : (FloatKind.f64.format.order (fl a) (fl a) != some .eq) = false := by
  have := order_eq ha ha
  rw [decide_eq_true rfl] at this
  simp only [bne, this]; rfl
set_option maxRecDepth 100000 in
theorem cmpF_any {a b : Nat} (ha : a < 9007199254740992) (hb : b < 9007199254740992) (w : World) : Calls Try.prog 18 #[.float .f64 (fl a), .float .f64 (fl b)] w fun e w' => e = .returned (.int .i64 (sgn a b)) ∧ w = w' := by
  have hn : ∀ (x : Nat), x < 9007199254740992 → ∀ (w : World), Calls Try.prog 26 #[.float .f64 (fl x)] w fun e w' => e = .returned (.bool false) ∧ w = w' := by
    intro x hx w
    have ho := order_ne hx
    go_enter Try.func26, Try.ntmps26
    go_wp2
    go_ret
    exact ⟨rfl, rfl⟩
  have H1 := Lib.hid (hn a ha)
  have H2 := Lib.hid (hn b hb)
  have o1 := order_lt ha hb
  have o2 := order_gt ha hb
  clear hn
  unfold sgn
  by_cases h1 : a < b
  · rw [if_pos h1]
    go_enter Try.func18, Try.ntmps18
    go_wp2_with (first | (go_at_call 26; (first | refine (H1.out _).mono ?_ | refine (H2.out _).mono ?_); rintro e w1 ⟨rfl, rfl⟩))
    go_ret
    exact ⟨rfl, rfl⟩
  · by_cases h2 : b < a
    · rw [if_neg h1, if_pos h2]
      go_enter Try.func18, Try.ntmps18
      go_wp2_with (first | (go_at_call 26; (first | refine (H1.out _).mono ?_ | refine (H2.out _).mono ?_); rintro e w1 ⟨rfl, rfl⟩))
      go_ret
      exact ⟨rfl, rfl⟩
    · rw [if_neg h1, if_neg h2]
      go_enter Try.func18, Try.ntmps18
      go_wp2_with (first | (go_at_call 26; (first | refine (H1.out _).mono ?_ | refine (H2.out _).mono ?_); rintro e w1 ⟨rfl, rfl⟩))
      go_ret
      exact ⟨rfl, rfl⟩
theorem both_any {a b : Nat} (h : a + b < 9007199254740992) (w : World) : Calls Try.prog 19 #[.complex .f64 (fl a) (fl b)] w fun e w' => e = .returned (.float .f64 (fl (a + b))) ∧ w = w' := by
  have hs := fun (t : TypeId) (w : World) => run_float_arith (P := Try.prog) w .add t .f64 (fl a) (fl b) (fl (a + b)) (by
    show Ieee.double.add (fl a) (fl b) = _
    exact add_val (val_fl (by omega)) (val_fl (by omega)) h)
  clear h
  go_enter Try.func19, Try.ntmps19
  go_wp2
  go_ret
  exact ⟨rfl, rfl⟩
section
variable {w w' : World} {p mb N : Nat} {f : Int → Pr}
set_option maxRecDepth 100000 in
set_option maxHeartbeats 1000000 in
theorem closure_any {B : Nat} (hB : w.cell? ⟨B, 0, none⟩ = some (.pointer (some ⟨p, 0, none⟩))) (h : LAt w p mb N f) {x y : Int} (hx : I64 x) (hy : I64 y) :
    Calls Try.prog 17 #[.int .i64 x, .int .i64 y, .pointer (some ⟨B, 0, none⟩)] w fun e w' => e = .returned (.int .i64 (cf f x y)) ∧ w' = w.drew := by
  have fx := h.few x
  have fy := h.few y
  have hd := h.new ((But.refl (fun _ => False) w).drew)
  have HL := Lib.hid (show w.drew.cell? ⟨B, 0, none⟩ = some (.pointer (some ⟨p, 0, none⟩)) ∧ w.drew.cell? ⟨p, 0, none⟩ = some (.map (some mb)) ∧ (Instr.lookup 42 (.map (some mb)) (.int .i64 x) false).run Try.prog w.drew = .ok (.complex .f64 (fl (f x).1) (fl (f x).2)) w.drew ∧ (Instr.lookup 42 (.map (some mb)) (.int .i64 y) false).run Try.prog w.drew = .ok (.complex .f64 (fl (f y).1) (fl (f y).2)) w.drew from ⟨hB, hd.cell, hd.look hx, hd.look hy⟩)
  have HX := Lib.hid (both_any (a := (f x).1) (b := (f x).2) (by omega))
  have HY := Lib.hid (both_any (a := (f y).1) (b := (f y).2) (by omega))
  have HC := Lib.hid (cmpF_any (a := (f y).1 + (f y).2) (b := (f x).1 + (f x).2) (by omega) (by omega))
  have HI := Lib.hid (cmpI_any x y)
  have e1 : cf f x y = if sgn ((f y).1 + (f y).2) ((f x).1 + (f x).2) ≠ 0 then sgn ((f y).1 + (f y).2) ((f x).1 + (f x).2) else sgnI x y := by
    unfold cf sgn sgnI tot
    by_cases h1 : (f y).1 + (f y).2 < (f x).1 + (f x).2
    · rw [if_pos h1, if_pos h1]; rfl
    · by_cases h2 : (f x).1 + (f x).2 < (f y).1 + (f y).2
      · rw [if_neg h1, if_neg h1, if_pos h2, if_pos h2]; rfl
      · rw [if_neg h1, if_neg h1, if_neg h2, if_neg h2]; rfl
  rw [e1]
  clear e1 h hd fx fy hB
  generalize sgnI x y = r2 at HI ⊢
  generalize sgn ((f y).1 + (f y).2) ((f x).1 + (f x).2) = r1 at HC ⊢
  by_cases hr : r1 = 0
  · rw [if_neg (by simp [hr])]
    subst hr
    go_enter Try.func17, Try.ntmps17
    go_wp2_with fail
    refine Late.region_goes (fun V => V = w.drew) (fun _ => false) (by kernel_rfl) ?_ (fun hH => ?_)
    · rfl
    refine Late.Goes.takeT (i := 0) (v := ?_) (by simp only [List.getElem?_toArray, List.getElem?_cons_succ, List.getElem?_cons_zero]; rfl) (by kernel_rfl) (by kernel_rfl) (by kernel_rfl) (by kernel_rfl) (by kernel_rfl) (by exact fun _ _ _ h => h) (Or.inl ⟨by rfl, ?_⟩) hH ?_
    rotate_left
    · (intro wy hSw; (try dsimp only at hSw); subst hSw; have b0 := HL.out.1; have c0 := HL.out.2.1; have lx := HL.out.2.2.1; have ly := HL.out.2.2.2; go_simp; try (with_reducible rfl))
    try simp only [Act.put, List.setIfInBounds_toArray, List.set_cons_zero, List.set_cons_succ]
    refine Late.Goes.takeT (i := 1) (v := ?_) (by simp only [List.getElem?_toArray, List.getElem?_cons_succ, List.getElem?_cons_zero]; rfl) (by kernel_rfl) (by kernel_rfl) (by kernel_rfl) (by kernel_rfl) (by kernel_rfl) (by exact fun _ _ _ h => h) (Or.inl ⟨by rfl, ?_⟩) hH ?_
    rotate_left
    · (intro wy hSw; (try dsimp only at hSw); subst hSw; have b0 := HL.out.1; have c0 := HL.out.2.1; have lx := HL.out.2.2.1; have ly := HL.out.2.2.2; go_simp; try (with_reducible rfl))
    try simp only [Act.put, List.setIfInBounds_toArray, List.set_cons_zero, List.set_cons_succ]
    refine Late.Goes.takeT (i := 2) (v := ?_) (by simp only [List.getElem?_toArray, List.getElem?_cons_succ, List.getElem?_cons_zero]; rfl) (by kernel_rfl) (by kernel_rfl) (by kernel_rfl) (by kernel_rfl) (by kernel_rfl) (by exact fun _ _ _ h => h) (Or.inl ⟨by rfl, ?_⟩) hH ?_
    rotate_left
    · (intro wy hSw; (try dsimp only at hSw); subst hSw; have b0 := HL.out.1; have c0 := HL.out.2.1; have lx := HL.out.2.2.1; have ly := HL.out.2.2.2; go_simp; try (with_reducible rfl))
    try simp only [Act.put, List.setIfInBounds_toArray, List.set_cons_zero, List.set_cons_succ]
    refine Late.Goes.takeT (i := 3) (v := ?_) (by simp only [List.getElem?_toArray, List.getElem?_cons_succ, List.getElem?_cons_zero]; rfl) (by kernel_rfl) (by kernel_rfl) (by kernel_rfl) (by kernel_rfl) (by kernel_rfl) (by exact fun _ _ _ h => h) (Or.inl ⟨by rfl, ?_⟩) hH ?_
    rotate_left
    · (intro wy hSw; (try dsimp only at hSw); subst hSw; have b0 := HL.out.1; have c0 := HL.out.2.1; have lx := HL.out.2.2.1; have ly := HL.out.2.2.2; go_simp; try (with_reducible rfl))
    try simp only [Act.put, List.setIfInBounds_toArray, List.set_cons_zero, List.set_cons_succ]
    refine Late.Goes.takeT (i := 4) (v := ?_) (by simp only [List.getElem?_toArray, List.getElem?_cons_succ, List.getElem?_cons_zero]; rfl) (by kernel_rfl) (by kernel_rfl) (by kernel_rfl) (by kernel_rfl) (by kernel_rfl) (by exact fun _ _ _ h => h) (Or.inl ⟨by rfl, ?_⟩) hH ?_
    rotate_left
    · (intro wy hSw; (try dsimp only at hSw); subst hSw; have b0 := HL.out.1; have c0 := HL.out.2.1; have lx := HL.out.2.2.1; have ly := HL.out.2.2.2; go_simp; try (with_reducible rfl))
    try simp only [Act.put, List.setIfInBounds_toArray, List.set_cons_zero, List.set_cons_succ]
    refine Late.Goes.takeT (i := 5) (v := ?_) (by simp only [List.getElem?_toArray, List.getElem?_cons_succ, List.getElem?_cons_zero]; rfl) (by kernel_rfl) (by kernel_rfl) (by kernel_rfl) (by kernel_rfl) (by kernel_rfl) (by exact fun _ _ _ h => h) (Or.inl ⟨by rfl, ?_⟩) hH ?_
    rotate_left
    · (intro wy hSw; (try dsimp only at hSw); subst hSw; have b0 := HL.out.1; have c0 := HL.out.2.1; have lx := HL.out.2.2.1; have ly := HL.out.2.2.2; go_simp; try (with_reducible rfl))
    try simp only [Act.put, List.setIfInBounds_toArray, List.set_cons_zero, List.set_cons_succ]
    refine Late.Goes.takeT (i := 7) (v := ?_) (by simp only [List.getElem?_toArray, List.getElem?_cons_succ, List.getElem?_cons_zero]; rfl) (by kernel_rfl) (by kernel_rfl) (by kernel_rfl) (by kernel_rfl) (by kernel_rfl) (by exact fun _ _ _ h => h) (Or.inl ⟨by rfl, ?_⟩) hH ?_
    rotate_left
    · (intro wy hSw; (try dsimp only at hSw); subst hSw; have b0 := HL.out.1; have c0 := HL.out.2.1; have lx := HL.out.2.2.1; have ly := HL.out.2.2.2; go_simp; try (with_reducible rfl))
    try simp only [Act.put, List.setIfInBounds_toArray, List.set_cons_zero, List.set_cons_succ]
    refine Late.Goes.takeT (i := 8) (v := ?_) (by simp only [List.getElem?_toArray, List.getElem?_cons_succ, List.getElem?_cons_zero]; rfl) (by kernel_rfl) (by kernel_rfl) (by kernel_rfl) (by kernel_rfl) (by kernel_rfl) (by exact fun _ _ _ h => h) (Or.inl ⟨by rfl, ?_⟩) hH ?_
    rotate_left
    · (intro wy hSw; (try dsimp only at hSw); subst hSw; have b0 := HL.out.1; have c0 := HL.out.2.1; have lx := HL.out.2.2.1; have ly := HL.out.2.2.2; go_simp; try (with_reducible rfl))
    try simp only [Act.put, List.setIfInBounds_toArray, List.set_cons_zero, List.set_cons_succ]
    refine Late.Goes.takeT (i := 9) (v := ?_) (by simp only [List.getElem?_toArray, List.getElem?_cons_succ, List.getElem?_cons_zero]; rfl) (by kernel_rfl) (by kernel_rfl) (by kernel_rfl) (by kernel_rfl) (by kernel_rfl) (by exact fun _ _ _ h => h) (Or.inl ⟨by rfl, ?_⟩) hH ?_
    rotate_left
    · (intro wy hSw; (try dsimp only at hSw); subst hSw; have b0 := HL.out.1; have c0 := HL.out.2.1; have lx := HL.out.2.2.1; have ly := HL.out.2.2.2; go_simp; try (with_reducible rfl))
    try simp only [Act.put, List.setIfInBounds_toArray, List.set_cons_zero, List.set_cons_succ]
    refine Late.Goes.takeT (i := 10) (v := ?_) (by simp only [List.getElem?_toArray, List.getElem?_cons_succ, List.getElem?_cons_zero]; rfl) (by kernel_rfl) (by kernel_rfl) (by kernel_rfl) (by kernel_rfl) (by kernel_rfl) (by exact fun _ _ _ h => h) (Or.inl ⟨by rfl, ?_⟩) hH ?_
    rotate_left
    · (intro wy hSw; (try dsimp only at hSw); subst hSw; have b0 := HL.out.1; have c0 := HL.out.2.1; have lx := HL.out.2.2.1; have ly := HL.out.2.2.2; go_simp; try (with_reducible rfl))
    try simp only [Act.put, List.setIfInBounds_toArray, List.set_cons_zero, List.set_cons_succ]
    refine Late.Goes.takeT (i := 11) (v := ?_) (by simp only [List.getElem?_toArray, List.getElem?_cons_succ, List.getElem?_cons_zero]; rfl) (by kernel_rfl) (by kernel_rfl) (by kernel_rfl) (by kernel_rfl) (by kernel_rfl) (by exact fun _ _ _ h => h) (Or.inl ⟨by rfl, ?_⟩) hH ?_
    rotate_left
    · (intro wy hSw; (try dsimp only at hSw); subst hSw; have b0 := HL.out.1; have c0 := HL.out.2.1; have lx := HL.out.2.2.1; have ly := HL.out.2.2.2; go_simp; try (with_reducible rfl))
    try simp only [Act.put, List.setIfInBounds_toArray, List.set_cons_zero, List.set_cons_succ]
    refine Late.Goes.takeT (i := 12) (v := ?_) (by simp only [List.getElem?_toArray, List.getElem?_cons_succ, List.getElem?_cons_zero]; rfl) (by kernel_rfl) (by kernel_rfl) (by kernel_rfl) (by kernel_rfl) (by kernel_rfl) (by exact fun _ _ _ h => h) (Or.inl ⟨by rfl, ?_⟩) hH ?_
    rotate_left
    · (intro wy hSw; (try dsimp only at hSw); subst hSw; have b0 := HL.out.1; have c0 := HL.out.2.1; have lx := HL.out.2.2.1; have ly := HL.out.2.2.2; go_simp; try (with_reducible rfl))
    try simp only [Act.put, List.setIfInBounds_toArray, List.set_cons_zero, List.set_cons_succ]
    refine Late.Goes.one (i := 6) (by kernel_rfl) (by simp only [List.getElem?_toArray, List.getElem?_cons_succ, List.getElem?_cons_zero]; rfl) (fun K hK => ?_)
    clear hH
    go_simp
    go_at_call 19
    refine (HY.out _).mono ?_
    rintro e w1 ⟨rfl, rfl⟩
    refine hK.out _ _ ?_ (fun hH => ?_)
    · exact fun _ => rfl
    clear hK K
    have hH := hH rfl
    try simp only [Act.put, List.setIfInBounds_toArray, List.set_cons_zero, List.set_cons_succ]
    refine Late.Goes.one (i := 13) (by kernel_rfl) (by simp only [List.getElem?_toArray, List.getElem?_cons_succ, List.getElem?_cons_zero]; rfl) (fun K hK => ?_)
    clear hH
    go_simp
    go_at_call 19
    refine (HX.out _).mono ?_
    rintro e w1 ⟨rfl, rfl⟩
    refine hK.out _ _ ?_ (fun hH => ?_)
    · exact fun _ => rfl
    clear hK K
    have hH := hH rfl
    try simp only [Act.put, List.setIfInBounds_toArray, List.set_cons_zero, List.set_cons_succ]
    refine Late.Goes.one (i := 14) (by kernel_rfl) (by simp only [List.getElem?_toArray, List.getElem?_cons_succ, List.getElem?_cons_zero]; rfl) (fun K hK => ?_)
    clear hH
    go_simp
    go_at_call 18
    refine (HC.out _).mono ?_
    rintro e w1 ⟨rfl, rfl⟩
    refine hK.out _ _ ?_ (fun hH => ?_)
    · exact fun _ => rfl
    clear hK K
    have hH := hH rfl
    try simp only [Act.put, List.setIfInBounds_toArray, List.set_cons_zero, List.set_cons_succ]
    refine Late.Goes.one (i := 15) (by kernel_rfl) (by simp only [List.getElem?_toArray, List.getElem?_cons_succ, List.getElem?_cons_zero]; rfl) (fun K hK => ?_)
    clear hH
    go_simp
    refine hK.out _ _ ?_ (fun hH => ?_)
    · exact fun _ => rfl
    clear hK K
    have hH := hH rfl
    try simp only [Act.put, List.setIfInBounds_toArray, List.set_cons_zero, List.set_cons_succ]
    refine Late.Goes.done (by kernel_rfl) ?_ _
    go_wp2_with (first | (go_at_call 20; refine (HI.out _).mono ?_; rintro e w1 ⟨rfl, rfl⟩))
    go_ret
    exact ⟨rfl, rfl⟩
  · rw [if_pos hr]
    have hr2 : (r1 != 0) = true := by simpa using hr
    go_enter Try.func17, Try.ntmps17
    go_wp2_with fail
    refine Late.region_goes (fun V => V = w.drew) (fun _ => false) (by kernel_rfl) ?_ (fun hH => ?_)
    · rfl
    refine Late.Goes.takeT (i := 0) (v := ?_) (by simp only [List.getElem?_toArray, List.getElem?_cons_succ, List.getElem?_cons_zero]; rfl) (by kernel_rfl) (by kernel_rfl) (by kernel_rfl) (by kernel_rfl) (by kernel_rfl) (by exact fun _ _ _ h => h) (Or.inl ⟨by rfl, ?_⟩) hH ?_
    rotate_left
    · (intro wy hSw; (try dsimp only at hSw); subst hSw; have b0 := HL.out.1; have c0 := HL.out.2.1; have lx := HL.out.2.2.1; have ly := HL.out.2.2.2; go_simp; try (with_reducible rfl))
    try simp only [Act.put, List.setIfInBounds_toArray, List.set_cons_zero, List.set_cons_succ]
    refine Late.Goes.takeT (i := 1) (v := ?_) (by simp only [List.getElem?_toArray, List.getElem?_cons_succ, List.getElem?_cons_zero]; rfl) (by kernel_rfl) (by kernel_rfl) (by kernel_rfl) (by kernel_rfl) (by kernel_rfl) (by exact fun _ _ _ h => h) (Or.inl ⟨by rfl, ?_⟩) hH ?_
    rotate_left
    · (intro wy hSw; (try dsimp only at hSw); subst hSw; have b0 := HL.out.1; have c0 := HL.out.2.1; have lx := HL.out.2.2.1; have ly := HL.out.2.2.2; go_simp; try (with_reducible rfl))
    try simp only [Act.put, List.setIfInBounds_toArray, List.set_cons_zero, List.set_cons_succ]
    refine Late.Goes.takeT (i := 2) (v := ?_) (by simp only [List.getElem?_toArray, List.getElem?_cons_succ, List.getElem?_cons_zero]; rfl) (by kernel_rfl) (by kernel_rfl) (by kernel_rfl) (by kernel_rfl) (by kernel_rfl) (by exact fun _ _ _ h => h) (Or.inl ⟨by rfl, ?_⟩) hH ?_
    rotate_left
    · (intro wy hSw; (try dsimp only at hSw); subst hSw; have b0 := HL.out.1; have c0 := HL.out.2.1; have lx := HL.out.2.2.1; have ly := HL.out.2.2.2; go_simp; try (with_reducible rfl))
    try simp only [Act.put, List.setIfInBounds_toArray, List.set_cons_zero, List.set_cons_succ]
    refine Late.Goes.takeT (i := 3) (v := ?_) (by simp only [List.getElem?_toArray, List.getElem?_cons_succ, List.getElem?_cons_zero]; rfl) (by kernel_rfl) (by kernel_rfl) (by kernel_rfl) (by kernel_rfl) (by kernel_rfl) (by exact fun _ _ _ h => h) (Or.inl ⟨by rfl, ?_⟩) hH ?_
    rotate_left
    · (intro wy hSw; (try dsimp only at hSw); subst hSw; have b0 := HL.out.1; have c0 := HL.out.2.1; have lx := HL.out.2.2.1; have ly := HL.out.2.2.2; go_simp; try (with_reducible rfl))
    try simp only [Act.put, List.setIfInBounds_toArray, List.set_cons_zero, List.set_cons_succ]
    refine Late.Goes.takeT (i := 4) (v := ?_) (by simp only [List.getElem?_toArray, List.getElem?_cons_succ, List.getElem?_cons_zero]; rfl) (by kernel_rfl) (by kernel_rfl) (by kernel_rfl) (by kernel_rfl) (by kernel_rfl) (by exact fun _ _ _ h => h) (Or.inl ⟨by rfl, ?_⟩) hH ?_
    rotate_left
    · (intro wy hSw; (try dsimp only at hSw); subst hSw; have b0 := HL.out.1; have c0 := HL.out.2.1; have lx := HL.out.2.2.1; have ly := HL.out.2.2.2; go_simp; try (with_reducible rfl))
    try simp only [Act.put, List.setIfInBounds_toArray, List.set_cons_zero, List.set_cons_succ]
    refine Late.Goes.takeT (i := 5) (v := ?_) (by simp only [List.getElem?_toArray, List.getElem?_cons_succ, List.getElem?_cons_zero]; rfl) (by kernel_rfl) (by kernel_rfl) (by kernel_rfl) (by kernel_rfl) (by kernel_rfl) (by exact fun _ _ _ h => h) (Or.inl ⟨by rfl, ?_⟩) hH ?_
    rotate_left
    · (intro wy hSw; (try dsimp only at hSw); subst hSw; have b0 := HL.out.1; have c0 := HL.out.2.1; have lx := HL.out.2.2.1; have ly := HL.out.2.2.2; go_simp; try (with_reducible rfl))
    try simp only [Act.put, List.setIfInBounds_toArray, List.set_cons_zero, List.set_cons_succ]
    refine Late.Goes.takeT (i := 7) (v := ?_) (by simp only [List.getElem?_toArray, List.getElem?_cons_succ, List.getElem?_cons_zero]; rfl) (by kernel_rfl) (by kernel_rfl) (by kernel_rfl) (by kernel_rfl) (by kernel_rfl) (by exact fun _ _ _ h => h) (Or.inl ⟨by rfl, ?_⟩) hH ?_
    rotate_left
    · (intro wy hSw; (try dsimp only at hSw); subst hSw; have b0 := HL.out.1; have c0 := HL.out.2.1; have lx := HL.out.2.2.1; have ly := HL.out.2.2.2; go_simp; try (with_reducible rfl))
    try simp only [Act.put, List.setIfInBounds_toArray, List.set_cons_zero, List.set_cons_succ]
    refine Late.Goes.takeT (i := 8) (v := ?_) (by simp only [List.getElem?_toArray, List.getElem?_cons_succ, List.getElem?_cons_zero]; rfl) (by kernel_rfl) (by kernel_rfl) (by kernel_rfl) (by kernel_rfl) (by kernel_rfl) (by exact fun _ _ _ h => h) (Or.inl ⟨by rfl, ?_⟩) hH ?_
    rotate_left
    · (intro wy hSw; (try dsimp only at hSw); subst hSw; have b0 := HL.out.1; have c0 := HL.out.2.1; have lx := HL.out.2.2.1; have ly := HL.out.2.2.2; go_simp; try (with_reducible rfl))
    try simp only [Act.put, List.setIfInBounds_toArray, List.set_cons_zero, List.set_cons_succ]
    refine Late.Goes.takeT (i := 9) (v := ?_) (by simp only [List.getElem?_toArray, List.getElem?_cons_succ, List.getElem?_cons_zero]; rfl) (by kernel_rfl) (by kernel_rfl) (by kernel_rfl) (by kernel_rfl) (by kernel_rfl) (by exact fun _ _ _ h => h) (Or.inl ⟨by rfl, ?_⟩) hH ?_
    rotate_left
    · (intro wy hSw; (try dsimp only at hSw); subst hSw; have b0 := HL.out.1; have c0 := HL.out.2.1; have lx := HL.out.2.2.1; have ly := HL.out.2.2.2; go_simp; try (with_reducible rfl))
    try simp only [Act.put, List.setIfInBounds_toArray, List.set_cons_zero, List.set_cons_succ]
    refine Late.Goes.takeT (i := 10) (v := ?_) (by simp only [List.getElem?_toArray, List.getElem?_cons_succ, List.getElem?_cons_zero]; rfl) (by kernel_rfl) (by kernel_rfl) (by kernel_rfl) (by kernel_rfl) (by kernel_rfl) (by exact fun _ _ _ h => h) (Or.inl ⟨by rfl, ?_⟩) hH ?_
    rotate_left
    · (intro wy hSw; (try dsimp only at hSw); subst hSw; have b0 := HL.out.1; have c0 := HL.out.2.1; have lx := HL.out.2.2.1; have ly := HL.out.2.2.2; go_simp; try (with_reducible rfl))
    try simp only [Act.put, List.setIfInBounds_toArray, List.set_cons_zero, List.set_cons_succ]
    refine Late.Goes.takeT (i := 11) (v := ?_) (by simp only [List.getElem?_toArray, List.getElem?_cons_succ, List.getElem?_cons_zero]; rfl) (by kernel_rfl) (by kernel_rfl) (by kernel_rfl) (by kernel_rfl) (by kernel_rfl) (by exact fun _ _ _ h => h) (Or.inl ⟨by rfl, ?_⟩) hH ?_
    rotate_left
    · (intro wy hSw; (try dsimp only at hSw); subst hSw; have b0 := HL.out.1; have c0 := HL.out.2.1; have lx := HL.out.2.2.1; have ly := HL.out.2.2.2; go_simp; try (with_reducible rfl))
    try simp only [Act.put, List.setIfInBounds_toArray, List.set_cons_zero, List.set_cons_succ]
    refine Late.Goes.takeT (i := 12) (v := ?_) (by simp only [List.getElem?_toArray, List.getElem?_cons_succ, List.getElem?_cons_zero]; rfl) (by kernel_rfl) (by kernel_rfl) (by kernel_rfl) (by kernel_rfl) (by kernel_rfl) (by exact fun _ _ _ h => h) (Or.inl ⟨by rfl, ?_⟩) hH ?_
    rotate_left
    · (intro wy hSw; (try dsimp only at hSw); subst hSw; have b0 := HL.out.1; have c0 := HL.out.2.1; have lx := HL.out.2.2.1; have ly := HL.out.2.2.2; go_simp; try (with_reducible rfl))
    try simp only [Act.put, List.setIfInBounds_toArray, List.set_cons_zero, List.set_cons_succ]
    refine Late.Goes.one (i := 6) (by kernel_rfl) (by simp only [List.getElem?_toArray, List.getElem?_cons_succ, List.getElem?_cons_zero]; rfl) (fun K hK => ?_)
    clear hH
    go_simp
    go_at_call 19
    refine (HY.out _).mono ?_
    rintro e w1 ⟨rfl, rfl⟩
    refine hK.out _ _ ?_ (fun hH => ?_)
    · exact fun _ => rfl
    clear hK K
    have hH := hH rfl
    try simp only [Act.put, List.setIfInBounds_toArray, List.set_cons_zero, List.set_cons_succ]
    refine Late.Goes.one (i := 13) (by kernel_rfl) (by simp only [List.getElem?_toArray, List.getElem?_cons_succ, List.getElem?_cons_zero]; rfl) (fun K hK => ?_)
    clear hH
    go_simp
    go_at_call 19
    refine (HX.out _).mono ?_
    rintro e w1 ⟨rfl, rfl⟩
    refine hK.out _ _ ?_ (fun hH => ?_)
    · exact fun _ => rfl
    clear hK K
    have hH := hH rfl
    try simp only [Act.put, List.setIfInBounds_toArray, List.set_cons_zero, List.set_cons_succ]
    refine Late.Goes.one (i := 14) (by kernel_rfl) (by simp only [List.getElem?_toArray, List.getElem?_cons_succ, List.getElem?_cons_zero]; rfl) (fun K hK => ?_)
    clear hH
    go_simp
    go_at_call 18
    refine (HC.out _).mono ?_
    rintro e w1 ⟨rfl, rfl⟩
    refine hK.out _ _ ?_ (fun hH => ?_)
    · exact fun _ => rfl
    clear hK K
    have hH := hH rfl
    try simp only [Act.put, List.setIfInBounds_toArray, List.set_cons_zero, List.set_cons_succ]
    refine Late.Goes.one (i := 15) (by kernel_rfl) (by simp only [List.getElem?_toArray, List.getElem?_cons_succ, List.getElem?_cons_zero]; rfl) (fun K hK => ?_)
    clear hH
    go_simp
    refine hK.out _ _ ?_ (fun hH => ?_)
    · exact fun _ => rfl
    clear hK K
    have hH := hH rfl
    try simp only [Act.put, List.setIfInBounds_toArray, List.set_cons_zero, List.set_cons_succ]
    refine Late.Goes.done (by kernel_rfl) ?_ _
    go_wp2
    go_ret
    exact ⟨rfl, rfl⟩
end
end Go.Proofs.Ytomeehecegehbaa.Ld
