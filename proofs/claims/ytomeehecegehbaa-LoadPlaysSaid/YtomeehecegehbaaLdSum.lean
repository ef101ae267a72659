/- The sum of all loads: in whatever order they come, their sum. -/
import Derived.Test.YtomeehecegehbaaLdCalls
namespace Go.Proofs.Ytomeehecegehbaa.Ld
open Go.Proofs.Ytomeehecegehbaa.Mem
open Go.ChangeShapes Go.WideShapes Go.ChangeAt Go.RowKit
set_option linter.unusedVariables false
set_option linter.unusedSimpArgs false
/- All buckets whose load isn't 0, each once. -/
def Ks (f : Int → Pr) (ss : List Int) : Prop := ss.Nodup ∧ ∀ x, x ∈ ss ↔ f x ≠ (0, 0)
def s1 (f : Int → Pr) (ss : List Int) : Nat := (ss.map fun k => (f k).1).sum
def s2 (f : Int → Pr) (ss : List Int) : Nat := (ss.map fun k => (f k).2).sum
theorem s1_snoc (f : Int → Pr) (ss : List Int) (x : Int) : s1 f (ss ++ [x]) = s1 f ss + (f x).1 := by simp [s1]
theorem s2_snoc (f : Int → Pr) (ss : List Int) (x : Int) : s2 f (ss ++ [x]) = s2 f ss + (f x).2 := by simp [s2]
theorem s1_le {f : Int → Pr} (h : ∀ s, (f s).1 ≤ 1099511627776 ∧ (f s).2 ≤ 1099511627776) : ∀ ss : List Int, s1 f ss ≤ ss.length * 1099511627776
  | [] => by simp [s1]
  | x :: ss => by
    have := s1_le h ss
    have := h x
    simp only [s1, List.map_cons, List.sum_cons, List.length_cons] at *
    omega
theorem s2_le {f : Int → Pr} (h : ∀ s, (f s).1 ≤ 1099511627776 ∧ (f s).2 ≤ 1099511627776) : ∀ ss : List Int, s2 f ss ≤ ss.length * 1099511627776
  | [] => by simp [s2]
  | x :: ss => by
    have := s2_le h ss
    have := h x
    simp only [s2, List.map_cons, List.sum_cons, List.length_cons] at *
    omega
theorem ks_perm {f : Int → Pr} {ss tt : List Int} (h : Ks f ss) (k : Ks f tt) : ss.Perm tt := (List.perm_ext_iff_of_nodup h.1 k.1).2 fun x => (h.2 x).trans (k.2 x).symm
theorem s1_perm {f : Int → Pr} {ss tt : List Int} (h : ss.Perm tt) : s1 f ss = s1 f tt := (h.map _).sum_nat
theorem s2_perm {f : Int → Pr} {ss tt : List Int} (h : ss.Perm tt) : s2 f ss = s2 f tt := (h.map _).sum_nat
theorem Tells.ks {D : DataW Pr} {f : Int → Pr} (h : Tells D f) {left : Lit → Bool} {ss : List Int} (hC : Came D left ss) (h0 : ∀ l, left l = false) : Ks f ss := by
  refine ⟨hC.1, fun x => ?_⟩
  rw [hC.2 x, h.has, h0]
  simp
theorem Tells.known {D : DataW Pr} {f : Int → Pr} (h : Tells D f) {x : Int} {a b : Nat} (ha : ∀ z, D.atKey (.int .i64 x) z = .held (a, b)) : a = fl (f x).1 ∧ b = fl (f x).2 := by
  have h1 : Maps.has D (.int .i64 x) = true := Maps.has_true_of_atKey ha
  rw [h.has] at h1
  have h2 := h.key x (by simpa using h1) (.map [])
  rw [ha] at h2
  injection h2 with h2
  exact ⟨congrArg Prod.fst h2, congrArg Prod.snd h2⟩
/- What a rest has of full parts. -/
def fp (a : Nat) : Nat := if a < 1099511627776 then 0 else 1099511627776
theorem fullPart_any {a : Nat} (ha : a < 9007199254740992) (w : World) : Calls Try.prog 28 #[.float .f64 (fl a)] w fun e w' => e = .returned (.float .f64 (fl (fp a))) ∧ w = w' := by
  have o := order_lt ha (b := 1099511627776) (by omega)
  rw [fl_most] at o
  unfold fp
  by_cases h : a < 1099511627776
  · rw [if_pos h, fl_zero]
    go_enter Try.func28, Try.ntmps28
    go_wp2
    go_ret
    exact ⟨rfl, rfl⟩
  · rw [if_neg h, fl_most]
    go_enter Try.func28, Try.ntmps28
    go_wp2
    go_ret
    exact ⟨rfl, rfl⟩
theorem full_any {a b : Nat} (ha : a < 9007199254740992) (hb : b < 9007199254740992) (w : World) : Calls Try.prog 21 #[.complex .f64 (fl a) (fl b)] w fun e w' => e = .returned (.complex .f64 (fl (fp a)) (fl (fp b))) ∧ w = w' := by
  have H1 := Lib.hid (fullPart_any ha)
  have H2 := Lib.hid (fullPart_any hb)
  clear ha hb
  go_enter Try.func21, Try.ntmps21
  go_wp2_with fail
  refine (H1.out _).mono ?_
  rintro e w1 ⟨rfl, rfl⟩
  go_wp2_with fail
  refine (H2.out _).mono ?_
  rintro e w1 ⟨rfl, rfl⟩
  go_wp2
  go_ret
  exact ⟨rfl, rfl⟩
section
variable {w w' : World} {p mb N : Nat} {f : Int → Pr}
/- The loop: what is full, what rests. -/
structure At (f : Int → Pr) (N : Nat) (ss : List Int) (F1 F2 R1 R2 : Nat) : Prop where
  r1 : R1 < 1099511627776
  r2 : R2 < 1099511627776
  t1 : F1 + R1 = s1 f ss
  t2 : F2 + R2 = s2 f ss
set_option maxRecDepth 100000 in
set_option maxHeartbeats 2000000 in
theorem ld_sum (h : LAt w p mb N f) (hN : N ≤ 1000) : Calls Try.prog 12 #[.pointer (some ⟨p, 0, none⟩)] w fun e w' => (∃ ss, Ks f ss ∧ ss.length ≤ N ∧ e = .returned (.complex .f64 (fl (s1 f ss)) (fl (s2 f ss)))) ∧ But (fun _ => False) w w' := by
  have c0 := h.cell
  obtain ⟨n, D, hm, hn, ht⟩ := h.map
  have H := Lib.hid h
  have HT := Lib.hid (And.intro hn ht)
  clear h hn ht
  go_enter Try.func12, Try.ntmps12
  go_wp2_with (first | (at_range; refine wpList_range_own _ rfl _ 42 rfl 3 34 law Try.underlying42 _ mb _ D rfl hm ?_; intro w0 hrg0 hg0 hs0))
  go_frame
  clear hs0
  go_loopw [3, 4, 6, 7] (fun x y _ _ wr => ∃ (left : Lit → Bool) (cnt : Nat) (ss : List Int) (F1 F2 R1 R2 : Nat), x = .complex .f64 (fl F1) (fl F2) ∧ y = .complex .f64 (fl R1) (fl R2) ∧ At f N ss F1 F2 R1 R2 ∧ wr.ranges Try.prog 3 cxElem mb w.heap.size n D left cnt ∧ ss.length + cnt ≤ Maps.size D ∧ Came D left ss ∧ w.grownBy wr none) (fun _ _ _ _ wr => wr.rangeLeft mb w.heap.size)
  case atStart => exact ⟨_, _, [], 0, 0, 0, 0, by rw [fl_zero], by rw [fl_zero], ⟨by omega, by omega, rfl, rfl⟩, hrg0, by simp, Came.start D, hg0⟩
  case round =>
    obtain ⟨left, cnt, ss, F1, F2, R1, R2, rfl, rfl, hA, hrg, hcs, hC, hgw⟩ := hrel
    have hb1 := s1_le HT.out.2.few ss
    have hb2 := s2_le HT.out.2.few ss
    have hlen : ss.length ≤ 1000 := by have := HT.out.1; omega
    have HA := Lib.hid hA
    have HCC := Lib.hid (And.intro hC hcs)
    have HB := Lib.hid (And.intro hb1 hb2)
    have a1 := hA.r1
    have a2 := hA.r2
    have a3 := hA.t1
    have a4 := hA.t2
    have HL := Lib.hid hlen
    have pe := plus_fl (a := F1) (b := F2) (c := R1) (d := R2) (by omega) (by omega) Try.prog
    clear hC hA hb1 hb2 a1 a2 a3 a4 hlen
    go_wp2_with (first | (at_next; refine wpList_next_ranges _ rfl _ rfl 3 law cxElem enc (fun c : Nat × Nat => Value.complex .f64 c.1 c.2) (fun key kl hk => by obtain ⟨x, hx, _⟩ := Maps.keyOf_int_inv Try.underlying3 hk; exact ⟨x, hx⟩) (fun v y hy => cxElem_inv hy) mb w.heap.size n D left cnt rfl hrg ?_ ?_))
    · intro hc0 hl0
      have hend := Lib.hid hl0
      clear hl0
      have hl : ss.length ≤ N := by have := HT.out.1; have := HCC.out.2; omega
      have hk := HT.out.2.ks HCC.out.1 hend.out
      go_wp2
      go_ret
      refine ⟨⟨ss, hk, hl, ?_⟩, (But.of_grown hgw).mono (fun i _ e => by cases e)⟩
      rw [HA.out.t1, HA.out.t2]
      rfl
    · intro x c1 c2 kl yd yp w2 cnt2 hkey hlk hv hat hrg2 hlt hg2 hs2 hen
      obtain ⟨x', ex, rfl, _⟩ := Maps.keyOf_int_inv Try.underlying3 hkey
      obtain rfl : x = x' := by simpa [enc] using ex
      obtain rfl : yd = .held (c1, c2) := by
        have : cxElem (.complex .f64 c1 c2) = some (yd, yp) := hv
        rw [cxElem_is] at this
        exact (congrArg Prod.fst (Option.some.inj this)).symm
      obtain ⟨rfl, rfl⟩ := HT.out.2.known hat
      have hst := HCC.out.1.step hlk hat
      have hfx := HT.out.2.few x
      have hgw2 := hgw.andThen hg2 (fun j hj => .inl (by injection hj with hj; omega))
      obtain ⟨x1, hx1⟩ : ∃ x1, (f x).1 = x1 := ⟨_, rfl⟩
      obtain ⟨x2, hx2⟩ : ∃ x2, (f x).2 = x2 := ⟨_, rfl⟩
      rw [hx1, hx2] at hen hfx
      have a1 := HA.out.r1
      have a2 := HA.out.r2
      have a3 := HA.out.t1
      have a4 := HA.out.t2
      have b1 := HB.out.1
      have b2 := HB.out.2
      have b3 := HL.out
      have l1 : fp (R1 + x1) ≤ R1 + x1 ∧ R1 + x1 - fp (R1 + x1) < 1099511627776 ∧ fp (R1 + x1) ≤ 1099511627776 := by unfold fp; split <;> omega
      have l2 : fp (R2 + x2) ≤ R2 + x2 ∧ R2 + x2 - fp (R2 + x2) < 1099511627776 ∧ fp (R2 + x2) ≤ 1099511627776 := by unfold fp; split <;> omega
      have HF := Lib.hid (full_any (a := R1 + x1) (b := R2 + x2) (by omega) (by omega))
      have p1 := plus_fl (a := R1) (b := R2) (c := x1) (d := x2) (by omega) (by omega) Try.prog
      have HA2 := Lib.hid (show At f N (ss ++ [x]) (F1 + fp (R1 + x1)) (F2 + fp (R2 + x2)) (R1 + x1 - fp (R1 + x1)) (R2 + x2 - fp (R2 + x2)) from
        ⟨l1.2.1, l2.2.1, by rw [s1_snoc, hx1]; omega, by rw [s2_snoc, hx2]; omega⟩)
      obtain ⟨g1, hg1⟩ : ∃ g1, fp (R1 + x1) = g1 := ⟨_, rfl⟩
      obtain ⟨g2', hg2'⟩ : ∃ g2', fp (R2 + x2) = g2' := ⟨_, rfl⟩
      rw [hg1, hg2'] at HF HA2
      rw [hg1] at l1
      rw [hg2'] at l2
      have p2 := plus_fl (a := F1) (b := F2) (c := g1) (d := g2') (by omega) (by omega) Try.prog
      have p3 := minus_fl (a := R1 + x1) (b := R2 + x2) (c := g1) (d := g2') (by omega) (by omega) l1.1 l2.1 Try.prog
      have HG := Lib.hid hgw2
      have HR := Lib.hid hrg2
      have HS := Lib.hid hst
      have HLT := Lib.hid (And.intro hlt hcs)
      clear pe hv hat hlk hkey ex hst hgw2 hrg2 hg2 hs2 a1 a2 a3 a4 b1 b2 b3 l1 l2 hfx hx1 hx2 hg1 hg2' hlt hcs
      go_wp2_with (first | (go_at_call 21; refine (HF.out _).mono ?_; rintro e w5 ⟨rfl, rfl⟩))
      go_roundw
      case rel => exact ⟨_, cnt2, ss ++ [x], _, _, _, _, rfl, rfl, HA2.out, HR.out, by have := HLT.out; simp; omega, HS.out, HG.out⟩
      case measure => rw [HR.out.left_eq, hrg.left_eq]; exact HLT.out.1
end
end Go.Proofs.Ytomeehecegehbaa.Ld
