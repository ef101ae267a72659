/- Contracts of loads' calls: New, Of, Drop, Add. -/
import Derived.Test.YtomeehecegehbaaLdAt
namespace Go.Proofs.Ytomeehecegehbaa.Ld
open Go.Proofs.Ytomeehecegehbaa.Mem
open Go.ChangeShapes Go.WideShapes Go.ChangeAt Go.RowKit
set_option linter.unusedVariables false
set_option linter.unusedSimpArgs false
abbrev most : Nat := 1099511627776
theorem fl_most : fl 1099511627776 = 4787326403894837248 := by kernel_rfl
theorem fl_5 : fl 5 = 4617315517961601024 := by kernel_rfl
theorem fl_7 : fl 7 = 4619567317775286272 := by kernel_rfl
theorem fl_9 : fl 9 = 4621256167635550208 := by kernel_rfl
theorem order_eq {a b : Nat} (ha : a < 9007199254740992) (hb : b < 9007199254740992) : (FloatKind.f64.format.order (fl a) (fl b) == some .eq) = decide (a = b) := by
  show (Ieee.double.order (fl a) (fl b) == some .eq) = _
  rw [order_val (val_fl ha) (val_fl hb)]
  rcases Nat.lt_trichotomy a b with h | h | h
  · rw [Nat.compare_eq_lt.2 h, decide_eq_false (by omega)]; rfl
  · rw [Nat.compare_eq_eq.2 h, decide_eq_true h]; rfl
  · rw [Nat.compare_eq_gt.2 h, decide_eq_false (by omega)]; rfl
theorem order_lt {a b : Nat} (ha : a < 9007199254740992) (hb : b < 9007199254740992) : (FloatKind.f64.format.order (fl a) (fl b) == some .lt) = decide (a < b) := by
  show (Ieee.double.order (fl a) (fl b) == some .lt) = _
  rw [order_val (val_fl ha) (val_fl hb)]
  rcases Nat.lt_trichotomy a b with h | h | h
  · rw [Nat.compare_eq_lt.2 h, decide_eq_true h]; rfl
  · rw [Nat.compare_eq_eq.2 h, decide_eq_false (by omega)]; rfl
  · rw [Nat.compare_eq_gt.2 h, decide_eq_false (by omega)]; rfl
theorem order_gt {a b : Nat} (ha : a < 9007199254740992) (hb : b < 9007199254740992) : (FloatKind.f64.format.order (fl a) (fl b) == some .gt) = decide (b < a) := by
  show (Ieee.double.order (fl a) (fl b) == some .gt) = _
  rw [order_val (val_fl ha) (val_fl hb)]
  rcases Nat.lt_trichotomy a b with h | h | h
  · rw [Nat.compare_eq_lt.2 h, decide_eq_false (by omega)]; rfl
  · rw [Nat.compare_eq_eq.2 h, decide_eq_false (by omega)]; rfl
  · rw [Nat.compare_eq_gt.2 h, decide_eq_true h]; rfl
/- Any number at all against 0. -/
theorem order_zero (a : Nat) : (FloatKind.f64.format.order (fl a) 0 == some .eq) = decide (a = 0) := by
  by_cases h : a < 4503599627370496
  · have := order_eq (a := a) (b := 0) (by omega) (by omega)
    rwa [fl_zero] at this
  · show (Ieee.double.order (fl a) 0 == some .eq) = _
    have h0 := val_fl (n := 0) (by omega)
    rw [fl_zero] at h0
    rw [order_big (big_fl (by omega)) h0 (by omega), decide_eq_false (by omega)]; rfl
/- What a part is cut to. -/
def Cuts (x n : Nat) : Prop := (∃ s, s < 9007199254740992 ∧ x = fl s ∧ n = min s 1099511627776) ∨ (Big x ∧ n = 1099511627776)
theorem fl_pos {s : Nat} (h : s < 9007199254740992) : (Ieee.double.read (fl s)).neg = false := by
  obtain ⟨m, p, h1, _⟩ := val_fl h
  rw [h1]; rfl
theorem run_cut {x n : Nat} (h : Cuts x n) (P : Program) (w : World) (ts : Array TypeId) (t : TypeId) : (Builtin.min_ ts t #[.float .f64 x, .float .f64 4787326403894837248]).run P w = .ok (.float .f64 (fl n)) w := by
  have hm := val_fl (n := 1099511627776) (by omega)
  rw [fl_most] at hm
  have key : FloatKind.f64.format.order x 4787326403894837248 = some .lt ∧ fl n = x ∨ FloatKind.f64.format.order x 4787326403894837248 = some .gt ∧ fl n = 4787326403894837248 ∨ FloatKind.f64.format.order x 4787326403894837248 = some .eq ∧ fl n = 4787326403894837248 ∧ (FloatKind.f64.decode x).neg = false := by
    rcases h with ⟨s, hs, rfl, rfl⟩ | ⟨hb, rfl⟩
    · have ho : FloatKind.f64.format.order (fl s) 4787326403894837248 = some (compare s 1099511627776) := order_val (val_fl hs) hm
      rcases Nat.lt_trichotomy s 1099511627776 with h | h | h
      · exact .inl ⟨by rw [ho, Nat.compare_eq_lt.2 h], by rw [Nat.min_eq_left (by omega)]⟩
      · exact .inr (.inr ⟨by rw [ho, Nat.compare_eq_eq.2 h], by rw [Nat.min_eq_right (by omega), fl_most], fl_pos hs⟩)
      · exact .inr (.inl ⟨by rw [ho, Nat.compare_eq_gt.2 h], by rw [Nat.min_eq_right (by omega), fl_most]⟩)
    · exact .inr (.inl ⟨order_big hb hm (by omega), fl_most⟩)
  show ((([Value.float .f64 4787326403894837248] : List Value).foldlM Builtin.min2 (.float .f64 x)).run P w) = _
  rcases key with ⟨h1, h2⟩ | ⟨h1, h2⟩ | ⟨h1, h2, h3⟩
  · simp [Builtin.min2, h1, h2]
  · simp [Builtin.min2, h1, h2]
  · simp [Builtin.min2, h1, h2, h3]
/- A part, and as much more as comes. -/
theorem add_cuts (a n : Nat) (ha : a ≤ 1099511627776) : ∃ r, Ieee.double.add (fl a) (fl n) = some r ∧ Cuts r (min (a + n) 1099511627776) := by
  by_cases h : n < 4503599627370496
  · exact ⟨_, add_val (val_fl (by omega)) (val_fl (by omega)) (by omega), .inl ⟨a + n, by omega, rfl, rfl⟩⟩
  · obtain ⟨r, h1, h2⟩ := add_big (val_fl (show a < 9007199254740992 by omega)) (big_fl (n := n) (by omega))
    exact ⟨r, h1, .inr ⟨h2, by omega⟩⟩
theorem run_plus {a b c d re im : Nat} (h1 : Ieee.double.add a c = some re) (h2 : Ieee.double.add b d = some im) (P : Program) (t : TypeId) (w : World) : (binOp .add t (.complex .f64 a b) (.complex .f64 c d)).run P w = .ok (.complex .f64 re im) w :=
  run_complex_sum w .add (.inl rfl) t .f64 a b c d re im (by
    unfold cSumBits floatBits
    show ((Ieee.double.add a c).bind fun re => (Ieee.double.add b d).bind fun im => some (re, im)) = _
    rw [h1, h2]; rfl)
theorem run_minus {a b c d re im : Nat} (h1 : Ieee.double.sub a c = some re) (h2 : Ieee.double.sub b d = some im) (P : Program) (t : TypeId) (w : World) : (binOp .sub t (.complex .f64 a b) (.complex .f64 c d)).run P w = .ok (.complex .f64 re im) w :=
  run_complex_sum w .sub (.inr rfl) t .f64 a b c d re im (by
    unfold cSumBits floatBits
    show ((Ieee.double.sub a c).bind fun re => (Ieee.double.sub b d).bind fun im => some (re, im)) = _
    rw [h1, h2]; rfl)
theorem plus_fl {a b c d : Nat} (h1 : a + c < 9007199254740992) (h2 : b + d < 9007199254740992) (P : Program) (t : TypeId) (w : World) : (binOp .add t (.complex .f64 (fl a) (fl b)) (.complex .f64 (fl c) (fl d))).run P w = .ok (.complex .f64 (fl (a + c)) (fl (b + d))) w :=
  run_plus (add_val (val_fl (by omega)) (val_fl (by omega)) h1) (add_val (val_fl (by omega)) (val_fl (by omega)) h2) P t w
theorem minus_fl {a b c d : Nat} (h1 : a < 9007199254740992) (h2 : b < 9007199254740992) (h3 : c ≤ a) (h4 : d ≤ b) (P : Program) (t : TypeId) (w : World) : (binOp .sub t (.complex .f64 (fl a) (fl b)) (.complex .f64 (fl c) (fl d))).run P w = .ok (.complex .f64 (fl (a - c)) (fl (b - d))) w :=
  run_minus (sub_val (val_fl (by omega)) (val_fl (by omega)) h3 h1) (sub_val (val_fl (by omega)) (val_fl (by omega)) h4 h2) P t w
/- What is there behind an Add. -/
def more (p : Pr) (x y : Int) : Pr := (min (p.1 + x.toNat) 1099511627776, min (p.2 + y.toNat) 1099511627776)
section
variable {w w' : World} {p mb N : Nat} {f : Int → Pr}
theorem LAt.put (h : LAt w p mb N f) (hN : N ≤ 100000) {k : Int} (hk : I64 k) (x : Pr) (hx : x ≠ (0, 0)) (hl : x.1 ≤ 1099511627776 ∧ x.2 ≤ 1099511627776) :
    ∃ w', (Instr.mapUpdate 42 (.map (some mb)) (.int .i64 k) (.complex .f64 (fl x.1) (fl x.2))).run Try.prog w = .ok () w' ∧ LAt w' p mb (N + 1) (upd f k x) ∧ But (fun j => j = mb) w w' := by
  obtain ⟨n, D, hm, hn, ht⟩ := h.map
  obtain ⟨w', h1, h2, h3⟩ := (ownsMap_tight hm).update law Try.underlying42 (by unfold maxLen; omega) (key64 hk) (cxElem_is (fl x.1) (fl x.2))
  have hb : But (fun j => j = mb) w w' := (But.of_grown h3).mono (fun i _ e => Option.some.inj e)
  refine ⟨w', h1, ⟨h.blk.but hb (fun e => h.ne h.blk e.symm), _, _, h2, ?_, ht.put hm.isMap k x hx hl⟩, hb⟩
  rw [Maps.size_put (hm.tidy law)]
  split <;> omega
theorem ld_new (w : World) : Calls Try.prog 6 #[] w fun e w' => ∃ p mb, e = .returned (.pointer (some ⟨p, 0, none⟩)) ∧ LAt w' p mb 0 (fun _ => (0, 0)) ∧ (w.heap.size ≤ p ∧ w.heap.size ≤ mb) ∧ But (fun _ => False) w w' := by
  have hmm := @run_makeMap Try.prog
  go_enter Try.func6, Try.ntmps6
  go_wp2
  go_ret
  refine ⟨w.heap.size + 1, w.heap.size, by simp, ?_, ⟨by omega, by omega⟩, ((But.refl _ w).alloc _).alloc _⟩
  have h1 : Blk ((w.alloc (.map #[] 0)).alloc (.cells #[.map (some w.heap.size)] 44)) (w.alloc (.map #[] 0)).heap.size 44 #[.map (some w.heap.size)] := Blk.new _ _ _
  rw [show (w.alloc (.map #[] 0)).heap.size = w.heap.size + 1 from by simp] at h1
  exact ⟨h1, ⟨0, .map [], (World.ownsMap_made w _ _ _).alloc _, Nat.le_refl _, tells_new⟩⟩
theorem ld_of (h : LAt w p mb N f) {k : Int} (hk : I64 k) : Calls Try.prog 10 #[.pointer (some ⟨p, 0, none⟩), .int .i64 k] w fun e w' => e = .returned (.complex .f64 (fl (f k).1) (fl (f k).2)) ∧ w = w' := by
  have c0 := h.cell
  have lk := h.look hk
  go_enter Try.func10, Try.ntmps10
  go_wp2
  go_ret
  exact ⟨rfl, rfl⟩
set_option maxRecDepth 100000 in
set_option maxHeartbeats 1000000 in
theorem ld_drop (h : LAt w p mb N f) {k : Int} (hk : I64 k) : Calls Try.prog 7 #[.pointer (some ⟨p, 0, none⟩), .int .i64 k] w fun e w' => e = .returned (.tuple #[]) ∧ LAt w' p mb N (upd f k (0, 0)) ∧ But (fun j => j = mb) w w' := by
  have c0 := h.cell
  obtain ⟨n, D, hm, hn, ht⟩ := h.map
  have H := Lib.hid h
  have HM := Lib.hid hm
  have HT := Lib.hid (And.intro hn ht)
  clear h hm hn ht
  go_enter Try.func7, Try.ntmps7
  go_wp2_with (at_delete; refine wpList_delete_own _ rfl _ _ 42 3 rfl 34 law Try.underlying42 _ mb _ _ rfl HM.out _ _ rfl (key64 hk) ?_; intro w5 hm5 ht5; clear c0)
  go_end0
  have hb5 := turned_but ht5
  have h5 := H.out
  have hsz := Maps.size_del (k := .int .i64 k) (HM.out.tidy law)
  exact ⟨rfl, ⟨h5.blk.but hb5 (fun e => h5.ne h5.blk e.symm), ⟨n, _, hm5, by have := HT.out.1; omega, HT.out.2.del k⟩⟩, hb5⟩
theorem cut_any {x y n m : Nat} (hx : Cuts x n) (hy : Cuts y m) (w : World) : Calls Try.prog 13 #[.complex .f64 x y] w fun e w' => e = .returned (.complex .f64 (fl n) (fl m)) ∧ w = w' := by
  have h1 := run_cut hx Try.prog
  have h2 := run_cut hy Try.prog
  clear hx hy
  go_enter Try.func13, Try.ntmps13
  go_wp2
  go_ret
  exact ⟨rfl, rfl⟩
theorem max_nat (x : Int) : (if (0 : Int) > x then 0 else x) = ((x.toNat : Nat) : Int) := by split <;> omega
theorem conv_nat (a : Nat) : floatOfInt .f64 ((a : Nat) : Int) = fl a := rfl
set_option maxRecDepth 100000 in
set_option maxHeartbeats 1000000 in
theorem ld_add (h : LAt w p mb N f) (hN : N ≤ 100000) {k : Int} (hk : I64 k) (x y : Int) : Calls Try.prog 8 #[.pointer (some ⟨p, 0, none⟩), .int .i64 k, .int .i64 x, .int .i64 y] w fun e w' => e = .returned (.tuple #[]) ∧ LAt w' p mb (N + 1) (upd f k (more (f k) x y)) ∧ But (fun j => j = mb) w w' := by
  have m1 := max_nat x
  have m2 := max_nat y
  have f1 := conv_nat x.toNat
  have f2 := conv_nat y.toNat
  have o1 := order_zero x.toNat
  have o2 := order_zero y.toNat
  unfold more
  generalize x.toNat = a at m1 f1 o1 ⊢
  generalize y.toNat = b at m2 f2 o2 ⊢
  have hf := h.few k
  by_cases h0 : a = 0 ∧ b = 0
  · obtain ⟨rfl, rfl⟩ := h0
    have e1 : upd f k (min ((f k).1 + 0) 1099511627776, min ((f k).2 + 0) 1099511627776) = f := by
      funext s
      unfold upd
      split
      · rename_i hs
        rw [hs, Nat.add_zero, Nat.add_zero, Nat.min_eq_left hf.1, Nat.min_eq_left hf.2]
      · rfl
    rw [e1]
    have H := Lib.hid (h.more (Nat.le_succ N))
    clear h hf e1
    go_enter Try.func8, Try.ntmps8
    go_wp2
    go_end0
    exact ⟨rfl, H.out, But.refl _ w⟩
  · have o3 : (decide (a = 0) && decide (b = 0)) = false := by simpa using h0
    obtain ⟨r, hr, hcr⟩ := add_cuts (f k).1 a hf.1
    obtain ⟨s, hs, hcs⟩ := add_cuts (f k).2 b hf.2
    have HC := Lib.hid (cut_any hcr hcs)
    have c0 := h.blk.cell 0
    have HL := Lib.hid (show w.drew.cell? ⟨p, 0, none⟩ = some (.map (some mb)) ∧ (Instr.lookup 42 (.map (some mb)) (.int .i64 k) false).run Try.prog w.drew = .ok (.complex .f64 (fl (f k).1) (fl (f k).2)) w.drew from ⟨(h.new ((But.refl (fun _ => False) w).drew)).cell, (h.new ((But.refl (fun _ => False) w).drew)).look hk⟩)
    have HP := Lib.hid (run_plus hr hs Try.prog)
    have HU := Lib.hid ((h.new ((But.refl (fun _ => False) w).drew)).put hN hk (min ((f k).1 + a) 1099511627776, min ((f k).2 + b) 1099511627776) (by
      intro e
      injection e with e1 e2
      omega) ⟨Nat.min_le_right _ _, Nat.min_le_right _ _⟩)
    clear h hf hr hs hcr hcs c0 h0
    go_enter Try.func8, Try.ntmps8
    go_wp2_with fail
    refine Late.region_goes (fun V => V = w.drew) (fun i => i == 14) (by kernel_rfl) ?_ (fun hH => ?_)
    · rfl
    refine Late.Goes.takeT (i := 0) (v := ?_) (by simp only [List.getElem?_toArray, List.getElem?_cons_succ, List.getElem?_cons_zero]; rfl) (by kernel_rfl) (by kernel_rfl) (by kernel_rfl) (by kernel_rfl) (by kernel_rfl) (by exact fun _ _ _ h => h) (Or.inl ⟨by rfl, ?_⟩) hH ?_
    rotate_left
    · (intro wy hSw; (try dsimp only at hSw); subst hSw; have c0 := HL.out.1; have lk := HL.out.2; have pl := HP.out; go_simp; try (with_reducible rfl))
    try simp only [Act.put, List.setIfInBounds_toArray, List.set_cons_zero, List.set_cons_succ]
    refine Late.Goes.takeT (i := 1) (v := ?_) (by simp only [List.getElem?_toArray, List.getElem?_cons_succ, List.getElem?_cons_zero]; rfl) (by kernel_rfl) (by kernel_rfl) (by kernel_rfl) (by kernel_rfl) (by kernel_rfl) (by exact fun _ _ _ h => h) (Or.inl ⟨by rfl, ?_⟩) hH ?_
    rotate_left
    · (intro wy hSw; (try dsimp only at hSw); subst hSw; have c0 := HL.out.1; have lk := HL.out.2; have pl := HP.out; go_simp; try (with_reducible rfl))
    try simp only [Act.put, List.setIfInBounds_toArray, List.set_cons_zero, List.set_cons_succ]
    refine Late.Goes.takeT (i := 2) (v := ?_) (by simp only [List.getElem?_toArray, List.getElem?_cons_succ, List.getElem?_cons_zero]; rfl) (by kernel_rfl) (by kernel_rfl) (by kernel_rfl) (by kernel_rfl) (by kernel_rfl) (by exact fun _ _ _ h => h) (Or.inl ⟨by rfl, ?_⟩) hH ?_
    rotate_left
    · (intro wy hSw; (try dsimp only at hSw); subst hSw; have c0 := HL.out.1; have lk := HL.out.2; have pl := HP.out; go_simp; try (with_reducible rfl))
    try simp only [Act.put, List.setIfInBounds_toArray, List.set_cons_zero, List.set_cons_succ]
    refine Late.Goes.takeT (i := 3) (v := ?_) (by simp only [List.getElem?_toArray, List.getElem?_cons_succ, List.getElem?_cons_zero]; rfl) (by kernel_rfl) (by kernel_rfl) (by kernel_rfl) (by kernel_rfl) (by kernel_rfl) (by exact fun _ _ _ h => h) (Or.inl ⟨by rfl, ?_⟩) hH ?_
    rotate_left
    · (intro wy hSw; (try dsimp only at hSw); subst hSw; have c0 := HL.out.1; have lk := HL.out.2; have pl := HP.out; go_simp; try (with_reducible rfl))
    try simp only [Act.put, List.setIfInBounds_toArray, List.set_cons_zero, List.set_cons_succ]
    refine Late.Goes.takeT (i := 4) (v := ?_) (by simp only [List.getElem?_toArray, List.getElem?_cons_succ, List.getElem?_cons_zero]; rfl) (by kernel_rfl) (by kernel_rfl) (by kernel_rfl) (by kernel_rfl) (by kernel_rfl) (by exact fun _ _ _ h => h) (Or.inl ⟨by rfl, ?_⟩) hH ?_
    rotate_left
    · (intro wy hSw; (try dsimp only at hSw); subst hSw; have c0 := HL.out.1; have lk := HL.out.2; have pl := HP.out; go_simp; try (with_reducible rfl))
    try simp only [Act.put, List.setIfInBounds_toArray, List.set_cons_zero, List.set_cons_succ]
    refine Late.Goes.takeT (i := 5) (v := ?_) (by simp only [List.getElem?_toArray, List.getElem?_cons_succ, List.getElem?_cons_zero]; rfl) (by kernel_rfl) (by kernel_rfl) (by kernel_rfl) (by kernel_rfl) (by kernel_rfl) (by exact fun _ _ _ h => h) (Or.inl ⟨by rfl, ?_⟩) hH ?_
    rotate_left
    · (intro wy hSw; (try dsimp only at hSw); subst hSw; have c0 := HL.out.1; have lk := HL.out.2; have pl := HP.out; go_simp; try (with_reducible rfl))
    try simp only [Act.put, List.setIfInBounds_toArray, List.set_cons_zero, List.set_cons_succ]
    refine Late.Goes.takeT (i := 6) (v := ?_) (by simp only [List.getElem?_toArray, List.getElem?_cons_succ, List.getElem?_cons_zero]; rfl) (by kernel_rfl) (by kernel_rfl) (by kernel_rfl) (by kernel_rfl) (by kernel_rfl) (by exact fun _ _ _ h => h) (Or.inl ⟨by rfl, ?_⟩) hH ?_
    rotate_left
    · (intro wy hSw; (try dsimp only at hSw); subst hSw; have c0 := HL.out.1; have lk := HL.out.2; have pl := HP.out; go_simp; try (with_reducible rfl))
    try simp only [Act.put, List.setIfInBounds_toArray, List.set_cons_zero, List.set_cons_succ]
    refine Late.Goes.takeT (i := 7) (v := ?_) (by simp only [List.getElem?_toArray, List.getElem?_cons_succ, List.getElem?_cons_zero]; rfl) (by kernel_rfl) (by kernel_rfl) (by kernel_rfl) (by kernel_rfl) (by kernel_rfl) (by exact fun _ _ _ h => h) (Or.inl ⟨by rfl, ?_⟩) hH ?_
    rotate_left
    · (intro wy hSw; (try dsimp only at hSw); subst hSw; have c0 := HL.out.1; have lk := HL.out.2; have pl := HP.out; go_simp; try (with_reducible rfl))
    try simp only [Act.put, List.setIfInBounds_toArray, List.set_cons_zero, List.set_cons_succ]
    refine Late.Goes.takeT (i := 8) (v := ?_) (by simp only [List.getElem?_toArray, List.getElem?_cons_succ, List.getElem?_cons_zero]; rfl) (by kernel_rfl) (by kernel_rfl) (by kernel_rfl) (by kernel_rfl) (by kernel_rfl) (by exact fun _ _ _ h => h) (Or.inl ⟨by rfl, ?_⟩) hH ?_
    rotate_left
    · (intro wy hSw; (try dsimp only at hSw); subst hSw; have c0 := HL.out.1; have lk := HL.out.2; have pl := HP.out; go_simp; try (with_reducible rfl))
    try simp only [Act.put, List.setIfInBounds_toArray, List.set_cons_zero, List.set_cons_succ]
    refine Late.Goes.takeT (i := 9) (v := ?_) (by simp only [List.getElem?_toArray, List.getElem?_cons_succ, List.getElem?_cons_zero]; rfl) (by kernel_rfl) (by kernel_rfl) (by kernel_rfl) (by kernel_rfl) (by kernel_rfl) (by exact fun _ _ _ h => h) (Or.inl ⟨by rfl, ?_⟩) hH ?_
    rotate_left
    · (intro wy hSw; (try dsimp only at hSw); subst hSw; have c0 := HL.out.1; have lk := HL.out.2; have pl := HP.out; go_simp; try (with_reducible rfl))
    try simp only [Act.put, List.setIfInBounds_toArray, List.set_cons_zero, List.set_cons_succ]
    refine Late.Goes.takeT (i := 10) (v := ?_) (by simp only [List.getElem?_toArray, List.getElem?_cons_succ, List.getElem?_cons_zero]; rfl) (by kernel_rfl) (by kernel_rfl) (by kernel_rfl) (by kernel_rfl) (by kernel_rfl) (by exact fun _ _ _ h => h) (Or.inl ⟨by rfl, ?_⟩) hH ?_
    rotate_left
    · (intro wy hSw; (try dsimp only at hSw); subst hSw; have c0 := HL.out.1; have lk := HL.out.2; have pl := HP.out; go_simp; try (with_reducible rfl))
    try simp only [Act.put, List.setIfInBounds_toArray, List.set_cons_zero, List.set_cons_succ]
    refine Late.Goes.takeT (i := 11) (v := ?_) (by simp only [List.getElem?_toArray, List.getElem?_cons_succ, List.getElem?_cons_zero]; rfl) (by kernel_rfl) (by kernel_rfl) (by kernel_rfl) (by kernel_rfl) (by kernel_rfl) (by exact fun _ _ _ h => h) (Or.inl ⟨by rfl, ?_⟩) hH ?_
    rotate_left
    · (intro wy hSw; (try dsimp only at hSw); subst hSw; have c0 := HL.out.1; have lk := HL.out.2; have pl := HP.out; go_simp; try (with_reducible rfl))
    try simp only [Act.put, List.setIfInBounds_toArray, List.set_cons_zero, List.set_cons_succ]
    refine Late.Goes.takeT (i := 12) (v := ?_) (by simp only [List.getElem?_toArray, List.getElem?_cons_succ, List.getElem?_cons_zero]; rfl) (by kernel_rfl) (by kernel_rfl) (by kernel_rfl) (by kernel_rfl) (by kernel_rfl) (by exact fun _ _ _ h => h) (Or.inl ⟨by rfl, ?_⟩) hH ?_
    rotate_left
    · (intro wy hSw; (try dsimp only at hSw); subst hSw; have c0 := HL.out.1; have lk := HL.out.2; have pl := HP.out; go_simp; try (with_reducible rfl))
    try simp only [Act.put, List.setIfInBounds_toArray, List.set_cons_zero, List.set_cons_succ]
    refine Late.Goes.one (i := 13) (by kernel_rfl) (by simp only [List.getElem?_toArray, List.getElem?_cons_succ, List.getElem?_cons_zero]; rfl) (fun K hK => ?_)
    clear hH
    go_simp
    go_at_call 13
    refine (HC.out _).mono ?_
    rintro e w1 ⟨rfl, rfl⟩
    refine hK.out _ _ ?_ (fun hH => ?_)
    · exact fun _ => rfl
    clear hK K
    have hH := hH rfl
    try simp only [Act.put, List.setIfInBounds_toArray, List.set_cons_zero, List.set_cons_succ]
    refine Late.Goes.one (i := 14) (by kernel_rfl) (by simp only [List.getElem?_toArray, List.getElem?_cons_succ, List.getElem?_cons_zero]; rfl) (fun K hK => ?_)
    clear hH
    obtain ⟨w5, hu, h5, hb5⟩ := HU.out
    have H5 := Lib.hid (And.intro h5 hb5)
    clear h5 hb5
    go_simp
    refine hK.out _ _ ?_ (fun _ => ?_)
    · exact fun h => by cases h
    clear hK K
    try simp only [Act.put, List.setIfInBounds_toArray, List.set_cons_zero, List.set_cons_succ]
    refine Late.Goes.done (by kernel_rfl) ?_ _
    go_wp2
    go_end0
    exact ⟨rfl, H5.out.1, ((But.refl (fun j => j = mb) w).drew).trans' H5.out.2⟩
end
end Go.Proofs.Ytomeehecegehbaa.Ld
