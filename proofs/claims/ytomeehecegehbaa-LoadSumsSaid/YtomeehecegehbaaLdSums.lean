/- LoadSums: the sum is that of all told by Of; what is added comes to it. -/
import Derived.Test.YtomeehecegehbaaLdMath
import Derived.Test.YtomeehecegehbaaLdDeed
namespace Go.Proofs.Ytomeehecegehbaa.Ld
open Go.Proofs.Ytomeehecegehbaa.Mem
open Go.ChangeShapes Go.WideShapes Go.ChangeAt Go.RowKit
set_option linter.unusedVariables false
set_option linter.unusedSimpArgs false
abbrev boxed (W : World) (x : Deed) : World := W.alloc (.cells #[.bool x.drop, .int .i64 x.b, .int .i64 x.x, .int .i64 x.y] 28)
/- Too many deeds: the law leaves at once. -/
set_option maxRecDepth 100000 in
set_option maxHeartbeats 1000000 in
theorem sums_away {W : World} {a : Option Addr} {n c : Nat} (x : Deed) (h : 100 < n) (hn : n ≤ 9223372036854775807) :
    Calls Try.prog 4 #[.slice a n c, .agg #[.bool x.drop, .int .i64 x.b, .int .i64 x.x, .int .i64 x.y]] W fun e w' => e = .returned (.bool true) ∧ But (fun _ => False) W w' := by
  have HB0 := Lib.hid ((But.refl (fun _ => False) W).alloc (.cells #[.bool x.drop, .int .i64 x.b, .int .i64 x.x, .int .i64 x.y] 28))
  have HU := Lib.hid (up_any (boxed W x))
  have HN := Lib.hid ld_new
  have h1 : (100 : Int) < (n : Int) := by omega
  clear h
  go_enter Try.func4, Try.ntmps4
  go_wp2_with fail
  refine HU.out.mono ?_
  rintro e w1 ⟨rfl, hB⟩
  have HB := Lib.hid (HB0.out.trans' hB)
  clear hB
  go_wp2_with fail
  refine (HN.out w1).mono ?_
  rintro e w2 ⟨p, mb, rfl, hA, hl, hB⟩
  have HB := Lib.hid (HB.out.trans' hB)
  clear hB hA hl
  go_wp2_with fail
  go_ret
  exact ⟨rfl, HB.out⟩
/- All parts are small. -/
def Low (b : Nat) (f : Int → Pr) : Prop := ∀ s, (f s).1 ≤ b ∧ (f s).2 ≤ b
theorem Low.add {b c : Nat} {f : Int → Pr} (h : Low b f) {k x y : Int} (hx : x.toNat ≤ c) (hy : y.toNat ≤ c) : Low (b + c) (upd f k (more (f k) x y)) := by
  intro s
  by_cases hs : s = k
  · rw [hs, upd_same]
    have := h k
    unfold more
    exact ⟨by show min _ _ ≤ _; omega, by show min _ _ ≤ _; omega⟩
  · rw [upd_other f _ hs]
    have := h s
    omega
theorem s1_low {f : Int → Pr} {b : Nat} (h : Low b f) : ∀ ss : List Int, s1 f ss ≤ ss.length * b
  | [] => by simp [s1]
  | x :: ss => by
    have := s1_low h ss
    have := h x
    simp only [s1, List.map_cons, List.sum_cons, List.length_cons, Nat.add_mul] at *
    omega
theorem s2_low {f : Int → Pr} {b : Nat} (h : Low b f) : ∀ ss : List Int, s2 f ss ≤ ss.length * b
  | [] => by simp [s2]
  | x :: ss => by
    have := s2_low h ss
    have := h x
    simp only [s2, List.map_cons, List.sum_cons, List.length_cons, Nat.add_mul] at *
    omega
theorem take_next {hs : List Int} {i : Nat} (h : i < hs.length) : hs.take (i + 1) = hs.take i ++ [hs[i]] := (List.take_append_getElem h).symm
theorem tmod_small (x : Int) : (x.tmod 1000000).toNat ≤ 1000000 := by
  have h1 := Int.tmod_lt_of_pos x (b := 1000000) (by omega)
  omega
theorem tmod_wrap (x : Int) (h : I64 x) : IntKind.i64.wrap (x.tmod 1000000) = x.tmod 1000000 := by
  have h1 := Int.tmod_lt_of_pos x (b := 1000000) (by omega)
  have h2 := Int.lt_tmod_of_pos x (b := 1000000) (by omega)
  rw [IntKind.wrap_i64]; omega
set_option maxRecDepth 100000 in
set_option maxHeartbeats 2000000 in
theorem sums_any {W : World} {a : Option Addr} {l : List Deed} {c : Nat} (hD : Deeds W a l) (hl : l.length ≤ 100) {x : Deed} (hx : OkD x) :
    Calls Try.prog 4 #[.slice a l.length c, .agg #[.bool x.drop, .int .i64 x.b, .int .i64 x.x, .int .i64 x.y]] W fun e w' => e = .returned (.bool true) ∧ But (fun _ => False) W w' := by
  have hb0 : But (fun _ => False) W (boxed W x) := (But.refl (fun _ => False) W).alloc _
  have HB0 := Lib.hid hb0
  have HU := Lib.hid (up_any (boxed W x))
  have HN := Lib.hid ld_new
  have HD := Lib.hid hD
  have HX := Lib.hid hx
  have hbx : Blk (boxed W x) W.heap.size 28 #[.bool x.drop, .int .i64 x.b, .int .i64 x.x, .int .i64 x.y] := Blk.new _ _ _
  obtain ⟨B, hB⟩ : ∃ B, B = W.heap.size := ⟨_, rfl⟩
  obtain ⟨n, hn⟩ : ∃ n, n = l.length := ⟨_, rfl⟩
  rw [← hn] at hl ⊢
  rw [← hB] at hbx
  have HBX := Lib.hid hbx
  have HNL := Lib.hid hn
  have h1 : ¬ (100 : Int) < (n : Int) := by omega
  clear hD hn hx hb0 hbx
  go_enter Try.func4, Try.ntmps4
  go_wp2_with fail
  rw [← hB]
  change Calls _ _ _ (boxed W x) _
  generalize boxed W x = W1 at HB0 HU HBX ⊢
  clear hB
  refine HU.out.mono ?_
  rintro e w1 ⟨rfl, hB⟩
  have HB := Lib.hid hB
  clear hB
  go_wp2_with fail
  refine (HN.out w1).mono ?_
  rintro e w2 ⟨p, mb, rfl, hA, hlw, hB⟩
  have HL := Lib.hid (show Live W1 w2 p mb 0 (fun _ => (0, 0)) from (show Live w1 w2 p mb 0 _ from ⟨hA, hlw, hB⟩).more HB.out)
  clear hB hA hlw HB HU HN h1
  go_wp2_with fail
  go_loopw [7] (fun v wr => ∃ (i : Nat) (f : Int → Pr), i ≤ n ∧ v = .int .i64 (i : Int) ∧ Live W1 wr p mb i f ∧ Low (i * 1000000) f) (fun v _ => n - (intOf v).toNat)
  case atStart => exact ⟨0, _, by omega, rfl, HL.out, fun s => ⟨by simp, by simp⟩⟩
  case round =>
    obtain ⟨i, f, hi, rfl, hL, hf⟩ := hrel
    by_cases hlt : i < n
    · have hil : i < l.length := by rw [← HNL.out]; exact hlt
      have hLd := hL.new ((But.refl (fun _ => False) wr).drew)
      obtain ⟨g, of, rfl, c0, c1, c2, c3⟩ := HD.out.get (HB0.out.trans' hLd.but) hil
      obtain ⟨d, hd⟩ : ∃ d, d = l[i] := ⟨_, rfl⟩
      have hok := HD.out.is_ _ (List.getElem_mem hil)
      rw [← hd] at c0 c1 c2 c3 hok
      have HOK := Lib.hid hok
      have HF := Lib.hid hf
      have HP := Lib.hid (ld_add hLd.at_ (by omega) hok.hb (d.x.tmod 1000000) (d.y.tmod 1000000))
      have HL := Lib.hid hLd
      have t1 := tmod_wrap d.x hok.hx
      have t2 := tmod_wrap d.y hok.hy
      have HC := Lib.hid (And.intro c1 (And.intro c2 c3))
      clear hd hok hL hLd hf c0 c1 c2 c3
      go_wp2_with fail
      refine Late.region_goes (fun V => V = wr.drew) (fun i => i == 18) (by kernel_rfl) ?_ (fun hH => ?_)
      · rfl
      refine Late.Goes.takeT (i := 0) (v := ?_) (by simp only [List.getElem?_toArray, List.getElem?_cons_succ, List.getElem?_cons_zero]; rfl) (by kernel_rfl) (by kernel_rfl) (by kernel_rfl) (by kernel_rfl) (by kernel_rfl) (by exact fun _ _ _ h => h) (Or.inl ⟨by rfl, ?_⟩) hH ?_
      rotate_left
      · (intro wy hSw; (try dsimp only at hSw); subst hSw; have d1 := HC.out.1; have d2 := HC.out.2.1; have d3 := HC.out.2.2; go_simp; try (with_reducible rfl))
      try simp only [Act.put, List.setIfInBounds_toArray, List.set_cons_zero, List.set_cons_succ]
      refine Late.Goes.takeT (i := 1) (v := ?_) (by simp only [List.getElem?_toArray, List.getElem?_cons_succ, List.getElem?_cons_zero]; rfl) (by kernel_rfl) (by kernel_rfl) (by kernel_rfl) (by kernel_rfl) (by kernel_rfl) (by exact fun _ _ _ h => h) (Or.inl ⟨by rfl, ?_⟩) hH ?_
      rotate_left
      · (intro wy hSw; (try dsimp only at hSw); subst hSw; have d1 := HC.out.1; have d2 := HC.out.2.1; have d3 := HC.out.2.2; go_simp; try (with_reducible rfl))
      try simp only [Act.put, List.setIfInBounds_toArray, List.set_cons_zero, List.set_cons_succ]
      refine Late.Goes.takeT (i := 2) (v := ?_) (by simp only [List.getElem?_toArray, List.getElem?_cons_succ, List.getElem?_cons_zero]; rfl) (by kernel_rfl) (by kernel_rfl) (by kernel_rfl) (by kernel_rfl) (by kernel_rfl) (by exact fun _ _ _ h => h) (Or.inl ⟨by rfl, ?_⟩) hH ?_
      rotate_left
      · (intro wy hSw; (try dsimp only at hSw); subst hSw; have d1 := HC.out.1; have d2 := HC.out.2.1; have d3 := HC.out.2.2; go_simp; try (with_reducible rfl))
      try simp only [Act.put, List.setIfInBounds_toArray, List.set_cons_zero, List.set_cons_succ]
      refine Late.Goes.takeT (i := 3) (v := ?_) (by simp only [List.getElem?_toArray, List.getElem?_cons_succ, List.getElem?_cons_zero]; rfl) (by kernel_rfl) (by kernel_rfl) (by kernel_rfl) (by kernel_rfl) (by kernel_rfl) (by exact fun _ _ _ h => h) (Or.inl ⟨by rfl, ?_⟩) hH ?_
      rotate_left
      · (intro wy hSw; (try dsimp only at hSw); subst hSw; have d1 := HC.out.1; have d2 := HC.out.2.1; have d3 := HC.out.2.2; go_simp; try (with_reducible rfl))
      try simp only [Act.put, List.setIfInBounds_toArray, List.set_cons_zero, List.set_cons_succ]
      refine Late.Goes.takeT (i := 4) (v := ?_) (by simp only [List.getElem?_toArray, List.getElem?_cons_succ, List.getElem?_cons_zero]; rfl) (by kernel_rfl) (by kernel_rfl) (by kernel_rfl) (by kernel_rfl) (by kernel_rfl) (by exact fun _ _ _ h => h) (Or.inl ⟨by rfl, ?_⟩) hH ?_
      rotate_left
      · (intro wy hSw; (try dsimp only at hSw); subst hSw; have d1 := HC.out.1; have d2 := HC.out.2.1; have d3 := HC.out.2.2; go_simp; try (with_reducible rfl))
      try simp only [Act.put, List.setIfInBounds_toArray, List.set_cons_zero, List.set_cons_succ]
      refine Late.Goes.takeT (i := 5) (v := ?_) (by simp only [List.getElem?_toArray, List.getElem?_cons_succ, List.getElem?_cons_zero]; rfl) (by kernel_rfl) (by kernel_rfl) (by kernel_rfl) (by kernel_rfl) (by kernel_rfl) (by exact fun _ _ _ h => h) (Or.inl ⟨by rfl, ?_⟩) hH ?_
      rotate_left
      · (intro wy hSw; (try dsimp only at hSw); subst hSw; have d1 := HC.out.1; have d2 := HC.out.2.1; have d3 := HC.out.2.2; go_simp; try (with_reducible rfl))
      try simp only [Act.put, List.setIfInBounds_toArray, List.set_cons_zero, List.set_cons_succ]
      refine Late.Goes.takeT (i := 6) (v := ?_) (by simp only [List.getElem?_toArray, List.getElem?_cons_succ, List.getElem?_cons_zero]; rfl) (by kernel_rfl) (by kernel_rfl) (by kernel_rfl) (by kernel_rfl) (by kernel_rfl) (by exact fun _ _ _ h => h) (Or.inl ⟨by rfl, ?_⟩) hH ?_
      rotate_left
      · (intro wy hSw; (try dsimp only at hSw); subst hSw; have d1 := HC.out.1; have d2 := HC.out.2.1; have d3 := HC.out.2.2; go_simp; try (with_reducible rfl))
      try simp only [Act.put, List.setIfInBounds_toArray, List.set_cons_zero, List.set_cons_succ]
      refine Late.Goes.takeT (i := 7) (v := ?_) (by simp only [List.getElem?_toArray, List.getElem?_cons_succ, List.getElem?_cons_zero]; rfl) (by kernel_rfl) (by kernel_rfl) (by kernel_rfl) (by kernel_rfl) (by kernel_rfl) (by exact fun _ _ _ h => h) (Or.inl ⟨by rfl, ?_⟩) hH ?_
      rotate_left
      · (intro wy hSw; (try dsimp only at hSw); subst hSw; have d1 := HC.out.1; have d2 := HC.out.2.1; have d3 := HC.out.2.2; go_simp; try (with_reducible rfl))
      try simp only [Act.put, List.setIfInBounds_toArray, List.set_cons_zero, List.set_cons_succ]
      refine Late.Goes.takeT (i := 8) (v := ?_) (by simp only [List.getElem?_toArray, List.getElem?_cons_succ, List.getElem?_cons_zero]; rfl) (by kernel_rfl) (by kernel_rfl) (by kernel_rfl) (by kernel_rfl) (by kernel_rfl) (by exact fun _ _ _ h => h) (Or.inl ⟨by rfl, ?_⟩) hH ?_
      rotate_left
      · (intro wy hSw; (try dsimp only at hSw); subst hSw; have d1 := HC.out.1; have d2 := HC.out.2.1; have d3 := HC.out.2.2; go_simp; try (with_reducible rfl))
      try simp only [Act.put, List.setIfInBounds_toArray, List.set_cons_zero, List.set_cons_succ]
      refine Late.Goes.takeT (i := 9) (v := ?_) (by simp only [List.getElem?_toArray, List.getElem?_cons_succ, List.getElem?_cons_zero]; rfl) (by kernel_rfl) (by kernel_rfl) (by kernel_rfl) (by kernel_rfl) (by kernel_rfl) (by exact fun _ _ _ h => h) (Or.inl ⟨by rfl, ?_⟩) hH ?_
      rotate_left
      · (intro wy hSw; (try dsimp only at hSw); subst hSw; have d1 := HC.out.1; have d2 := HC.out.2.1; have d3 := HC.out.2.2; go_simp; try (with_reducible rfl))
      try simp only [Act.put, List.setIfInBounds_toArray, List.set_cons_zero, List.set_cons_succ]
      refine Late.Goes.takeT (i := 10) (v := ?_) (by simp only [List.getElem?_toArray, List.getElem?_cons_succ, List.getElem?_cons_zero]; rfl) (by kernel_rfl) (by kernel_rfl) (by kernel_rfl) (by kernel_rfl) (by kernel_rfl) (by exact fun _ _ _ h => h) (Or.inl ⟨by rfl, ?_⟩) hH ?_
      rotate_left
      · (intro wy hSw; (try dsimp only at hSw); subst hSw; have d1 := HC.out.1; have d2 := HC.out.2.1; have d3 := HC.out.2.2; go_simp; try (with_reducible rfl))
      try simp only [Act.put, List.setIfInBounds_toArray, List.set_cons_zero, List.set_cons_succ]
      refine Late.Goes.takeT (i := 11) (v := ?_) (by simp only [List.getElem?_toArray, List.getElem?_cons_succ, List.getElem?_cons_zero]; rfl) (by kernel_rfl) (by kernel_rfl) (by kernel_rfl) (by kernel_rfl) (by kernel_rfl) (by exact fun _ _ _ h => h) (Or.inl ⟨by rfl, ?_⟩) hH ?_
      rotate_left
      · (intro wy hSw; (try dsimp only at hSw); subst hSw; have d1 := HC.out.1; have d2 := HC.out.2.1; have d3 := HC.out.2.2; go_simp; try (with_reducible rfl))
      try simp only [Act.put, List.setIfInBounds_toArray, List.set_cons_zero, List.set_cons_succ]
      refine Late.Goes.takeT (i := 12) (v := ?_) (by simp only [List.getElem?_toArray, List.getElem?_cons_succ, List.getElem?_cons_zero]; rfl) (by kernel_rfl) (by kernel_rfl) (by kernel_rfl) (by kernel_rfl) (by kernel_rfl) (by exact fun _ _ _ h => h) (Or.inl ⟨by rfl, ?_⟩) hH ?_
      rotate_left
      · (intro wy hSw; (try dsimp only at hSw); subst hSw; have d1 := HC.out.1; have d2 := HC.out.2.1; have d3 := HC.out.2.2; go_simp; try (with_reducible rfl))
      try simp only [Act.put, List.setIfInBounds_toArray, List.set_cons_zero, List.set_cons_succ]
      refine Late.Goes.takeT (i := 13) (v := ?_) (by simp only [List.getElem?_toArray, List.getElem?_cons_succ, List.getElem?_cons_zero]; rfl) (by kernel_rfl) (by kernel_rfl) (by kernel_rfl) (by kernel_rfl) (by kernel_rfl) (by exact fun _ _ _ h => h) (Or.inl ⟨by rfl, ?_⟩) hH ?_
      rotate_left
      · (intro wy hSw; (try dsimp only at hSw); subst hSw; have d1 := HC.out.1; have d2 := HC.out.2.1; have d3 := HC.out.2.2; go_simp; try (with_reducible rfl))
      try simp only [Act.put, List.setIfInBounds_toArray, List.set_cons_zero, List.set_cons_succ]
      refine Late.Goes.takeT (i := 14) (v := ?_) (by simp only [List.getElem?_toArray, List.getElem?_cons_succ, List.getElem?_cons_zero]; rfl) (by kernel_rfl) (by kernel_rfl) (by kernel_rfl) (by kernel_rfl) (by kernel_rfl) (by exact fun _ _ _ h => h) (Or.inl ⟨by rfl, ?_⟩) hH ?_
      rotate_left
      · (intro wy hSw; (try dsimp only at hSw); subst hSw; have d1 := HC.out.1; have d2 := HC.out.2.1; have d3 := HC.out.2.2; go_simp; try (with_reducible rfl))
      try simp only [Act.put, List.setIfInBounds_toArray, List.set_cons_zero, List.set_cons_succ]
      refine Late.Goes.takeT (i := 15) (v := ?_) (by simp only [List.getElem?_toArray, List.getElem?_cons_succ, List.getElem?_cons_zero]; rfl) (by kernel_rfl) (by kernel_rfl) (by kernel_rfl) (by kernel_rfl) (by kernel_rfl) (by exact fun _ _ _ h => h) (Or.inl ⟨by rfl, ?_⟩) hH ?_
      rotate_left
      · (intro wy hSw; (try dsimp only at hSw); subst hSw; have d1 := HC.out.1; have d2 := HC.out.2.1; have d3 := HC.out.2.2; go_simp; try (with_reducible rfl))
      try simp only [Act.put, List.setIfInBounds_toArray, List.set_cons_zero, List.set_cons_succ]
      refine Late.Goes.takeT (i := 16) (v := ?_) (by simp only [List.getElem?_toArray, List.getElem?_cons_succ, List.getElem?_cons_zero]; rfl) (by kernel_rfl) (by kernel_rfl) (by kernel_rfl) (by kernel_rfl) (by kernel_rfl) (by exact fun _ _ _ h => h) (Or.inl ⟨by rfl, ?_⟩) hH ?_
      rotate_left
      · (intro wy hSw; (try dsimp only at hSw); subst hSw; have d1 := HC.out.1; have d2 := HC.out.2.1; have d3 := HC.out.2.2; go_simp; try (with_reducible rfl))
      try simp only [Act.put, List.setIfInBounds_toArray, List.set_cons_zero, List.set_cons_succ]
      refine Late.Goes.takeT (i := 17) (v := ?_) (by simp only [List.getElem?_toArray, List.getElem?_cons_succ, List.getElem?_cons_zero]; rfl) (by kernel_rfl) (by kernel_rfl) (by kernel_rfl) (by kernel_rfl) (by kernel_rfl) (by exact fun _ _ _ h => h) (Or.inl ⟨by rfl, ?_⟩) hH ?_
      rotate_left
      · (intro wy hSw; (try dsimp only at hSw); subst hSw; have d1 := HC.out.1; have d2 := HC.out.2.1; have d3 := HC.out.2.2; go_simp; try (with_reducible rfl))
      try simp only [Act.put, List.setIfInBounds_toArray, List.set_cons_zero, List.set_cons_succ]
      refine Late.Goes.one (i := 18) (by kernel_rfl) (by simp only [List.getElem?_toArray, List.getElem?_cons_succ, List.getElem?_cons_zero]; rfl) (fun K hK => ?_)
      clear hH
      go_simp
      go_at_call 8
      refine HP.out.mono ?_
      rintro e w5 ⟨rfl, hA, hB⟩
      have HL5 := Lib.hid (HL.out.turn hA hB)
      clear hA hB HP HL
      refine hK.out _ _ ?_ (fun _ => ?_)
      · exact fun h => by cases h
      clear hK K
      try simp only [Act.put, List.setIfInBounds_toArray, List.set_cons_zero, List.set_cons_succ]
      refine Late.Goes.done (by kernel_rfl) ?_ _
      go_wp2_with fail
      go_roundw
      case rel => exact ⟨i + 1, _, by omega, by simp, HL5.out, by rw [Nat.add_mul, Nat.one_mul]; exact HF.out.add (tmod_small _) (tmod_small _)⟩
      case measure => simp [intOf]; omega
    · have hin : i = n := by omega
      subst hin
      have HF := Lib.hid (show Low 100000000 f from fun s => by have := hf s; omega)
      have HH := Lib.hid (ld_heavy hL.at_ (by omega))
      have HL := Lib.hid hL
      clear hL hf
      go_wp2_with fail
      refine HH.out.mono ?_
      rintro e w5 ⟨v, hs, rfl, hk, _, h64, hlen, hint, hB⟩
      have HL := Lib.hid (HL.out.new hB)
      have HK := Lib.hid hk
      have H64 := Lib.hid h64
      have HLEN := Lib.hid hlen
      obtain ⟨va, vc, rfl, hcell⟩ := hint.at_
      have HCELL := Lib.hid hcell
      have HOF := Lib.hid (fun (k : Int) (hk : I64 k) => ld_of HL.out.at_ hk)
      obtain ⟨m, hm⟩ : ∃ m, m = hs.length := ⟨_, rfl⟩
      rw [← hm]
      have HM := Lib.hid hm
      have hm100 : m ≤ 100 := by omega
      clear hk h64 hlen hint hB hcell HH hm
      go_wp2_with fail
      go_loopw [8, 10] (fun u v wr => ∃ (j : Nat), j ≤ m ∧ u = .complex .f64 (fl (s1 f (hs.take j))) (fl (s2 f (hs.take j))) ∧ v = .int .i64 (j : Int) ∧ wr = w5) (fun _ v _ => m - (intOf v).toNat)
      case atStart => exact ⟨0, by omega, by simp [s1, s2, fl_zero], rfl, rfl⟩
      case round =>
        obtain ⟨j, hj, rfl, rfl, rfl⟩ := hrel
        by_cases hjm : j < m
        · have hjl : j < hs.length := by rw [← HM.out]; exact hjm
          obtain ⟨g, rfl, _, hc⟩ := HCELL.out j hjl
          obtain ⟨k, hk⟩ : ∃ k, k = hs[j] := ⟨_, rfl⟩
          have HO := Lib.hid (HOF.out _ (H64.out _ (List.getElem_mem hjl)))
          have q1 := s1_low HF.out (hs.take j)
          have q2 := s2_low HF.out (hs.take j)
          have q3 := HF.out k
          have q4 : (hs.take j).length ≤ 100 := by rw [List.length_take]; omega
          have HN := Lib.hid (show s1 f (hs.take (j + 1)) = s1 f (hs.take j) + (f k).1 ∧ s2 f (hs.take (j + 1)) = s2 f (hs.take j) + (f k).2 from by rw [take_next hjl, s1_snoc, s2_snoc, hk]; exact ⟨rfl, rfl⟩)
          rw [← hk] at hc HO
          have pl := plus_fl (a := s1 f (hs.take j)) (b := s2 f (hs.take j)) (c := (f k).1) (d := (f k).2) (by omega) (by omega) Try.prog
          clear hk q1 q2 q3 q4
          go_wp2_with (first | (go_at_call 10; refine HO.out.mono ?_; rintro e w6 ⟨rfl, rfl⟩))
          go_roundw
          case rel => exact ⟨j + 1, by omega, by rw [HN.out.1, HN.out.2], by simp, by first | rfl | trivial⟩
          case measure => simp [intOf]; omega
        · have hjm' : j = m := by omega
          subst hjm'
          rw [show hs.take j = hs from List.take_of_length_le (by rw [← HM.out]; exact Nat.le_refl _)]
          have q1 := s1_low HF.out hs
          have q2 := s2_low HF.out hs
          rw [← HM.out] at q1 q2
          have HSUM := Lib.hid (ld_sum HL.out.at_ (by omega))
          have hxb := HX.out.hb
          have HO1 := Lib.hid (HOF.out x.b hxb)
          have HA1 := Lib.hid (ld_add HL.out.at_ (by omega) hxb 7 9)
          have q3 := HF.out x.b
          have hmore : more (f x.b) 7 9 = ((f x.b).1 + 7, (f x.b).2 + 9) := by
            unfold more
            rw [Nat.min_eq_left (by show (f x.b).1 + 7 ≤ _; omega), Nat.min_eq_left (by show (f x.b).2 + 9 ≤ _; omega)]
            rfl
          rw [hmore] at HA1
          obtain ⟨f2, hf2⟩ : ∃ f2, f2 = upd f x.b ((f x.b).1 + 7, (f x.b).2 + 9) := ⟨_, rfl⟩
          rw [← hf2] at HA1
          have HF2 := Lib.hid hf2
          have hg : f2 x.b = ((f x.b).1 + 7, (f x.b).2 + 9) := by rw [hf2, upd_same]
          have HG := Lib.hid hg
          obtain ⟨S1, hS1⟩ : ∃ S1, S1 = s1 f hs := ⟨_, rfl⟩
          obtain ⟨S2, hS2⟩ : ∃ S2, S2 = s2 f hs := ⟨_, rfl⟩
          have hle1 : (f x.b).1 ≤ S1 := by
            have := sm_split (fun k => (f k).1) x.b hs HK.out.1
            rw [← s1_sm, ← hS1] at this
            split at this
            · omega
            · rename_i hn
              have : ¬ (f x.b ≠ (0, 0)) := fun e => hn ((HK.out.2 _).2 e)
              rw [Classical.not_not.1 this]
              exact Nat.zero_le _
          have hle2 : (f x.b).2 ≤ S2 := by
            have := sm_split (fun k => (f k).2) x.b hs HK.out.1
            rw [← s2_sm, ← hS2] at this
            split at this
            · omega
            · rename_i hn
              have : ¬ (f x.b ≠ (0, 0)) := fun e => hn ((HK.out.2 _).2 e)
              rw [Classical.not_not.1 this]
              exact Nat.zero_le _
          obtain ⟨o1, ho1⟩ : ∃ o1, o1 = (f x.b).1 := ⟨_, rfl⟩
          obtain ⟨o2, ho2⟩ : ∃ o2, o2 = (f x.b).2 := ⟨_, rfl⟩
          rw [← hS1] at q1 ⊢
          rw [← hS2] at q2 ⊢
          rw [← ho1] at q3 hle1 HG HO1
          rw [← ho2] at q3 hle2 HG HO1
          have HS := Lib.hid (And.intro hS1 (And.intro hS2 (And.intro ho1 ho2)))
          have b1 : S1 < 100000000000 := by omega
          have b2 : S2 < 100000000000 := by omega
          have pl1 := plus_fl (a := o1) (b := o2) (c := 7) (d := 9) (by omega) (by omega) Try.prog
          have pl2 := plus_fl (a := S1) (b := S2) (c := 7) (d := 9) (by omega) (by omega) Try.prog
          have mi := minus_fl (a := S1) (b := S2) (c := o1) (d := o2) (by omega) (by omega) hle1 hle2 Try.prog
          rw [fl_7, fl_9] at pl1 pl2
          have oe : ∀ q, q < 9007199254740992 → (FloatKind.f64.format.order (fl q) (fl q) == some .eq) = true := fun q hq => by rw [order_eq hq hq]; exact decide_eq_true rfl
          have e1 := oe S1 (by omega)
          have e2 := oe S2 (by omega)
          have e3 := oe (o1 + 7) (by omega)
          have e4 := oe (o2 + 9) (by omega)
          have e5 := oe (S1 + 7) (by omega)
          have e6 := oe (S2 + 9) (by omega)
          have e7 := oe (S1 - o1) (by omega)
          have e8 := oe (S2 - o2) (by omega)
          have e9 : (FloatKind.f64.format.order 0 0 == some .eq) = true := by kernel_rfl
          have x1 : wr.cell? ⟨B, 1, none⟩ = some (.int .i64 x.b) := (HBX.out.but HL.out.but (fun h => h)).cell 1
          clear oe hS1 hS2 ho1 ho2 hle1 hle2 q1 q2 q3 hg hmore hf2
          go_wp2_with fail
          refine HSUM.out.mono ?_
          rintro e w6 ⟨⟨ss, hks, _, rfl⟩, hB⟩
          rw [s1_perm (ks_perm hks HK.out), s2_perm (ks_perm hks HK.out), ← HS.out.1, ← HS.out.2.1]
          have HL := Lib.hid (HL.out.new hB)
          have HO1 := Lib.hid (ld_of HL.out.at_ hxb)
          rw [← HS.out.2.2.1, ← HS.out.2.2.2] at HO1
          have x1 : w6.cell? ⟨B, 1, none⟩ = some (.int .i64 x.b) := (HBX.out.but HL.out.but (fun h => h)).cell 1
          clear hks hB HSUM
          go_wp2_with fail
          refine HO1.out.mono ?_
          rintro e w7 ⟨rfl, rfl⟩
          have HA1 := Lib.hid (ld_add HL.out.at_ (by omega) hxb 7 9)
          go_wp2_with fail
          refine HA1.out.mono ?_
          rintro e w8 ⟨rfl, hA, hB⟩
          rw [show more (f x.b) 7 9 = (o1 + 7, o2 + 9) from by
            rw [HS.out.2.2.1, HS.out.2.2.2]
            have q3 := HF.out x.b
            unfold more
            rw [Nat.min_eq_left (by show (f x.b).1 + 7 ≤ _; omega), Nat.min_eq_left (by show (f x.b).2 + 9 ≤ _; omega)]
            rfl] at hA
          have HL8 := Lib.hid (HL.out.turn hA hB)
          have HO2 := Lib.hid (ld_of hA hxb)
          rw [upd_same] at HO2
          have HS8 := Lib.hid (ld_sum hA (by omega))
          have x2 : w8.cell? ⟨B, 1, none⟩ = some (.int .i64 x.b) := (HBX.out.but HL8.out.but (fun h => h)).cell 1
          clear hA hB x1 HA1
          go_wp2_with fail
          refine HO2.out.mono ?_
          rintro e w9 ⟨rfl, rfl⟩
          go_wp2_with fail
          refine HS8.out.mono ?_
          rintro e w9 ⟨⟨tt, hkt, _, rfl⟩, hB⟩
          have z1 := s1_upd HK.out hkt
          have z2 := s2_upd HK.out hkt
          rw [← HS.out.1, ← HS.out.2.2.1] at z1
          rw [← HS.out.2.1, ← HS.out.2.2.2] at z2
          obtain ⟨u1, hu1⟩ : ∃ u1, u1 = s1 (upd f x.b (o1 + 7, o2 + 9)) tt := ⟨_, rfl⟩
          obtain ⟨u2, hu2⟩ : ∃ u2, u2 = s2 (upd f x.b (o1 + 7, o2 + 9)) tt := ⟨_, rfl⟩
          have HUU := Lib.hid (And.intro hu1 hu2)
          rw [← hu1] at z1 ⊢
          rw [← hu2] at z2 ⊢
          obtain rfl : u1 = S1 + 7 := by show u1 = _; have z1' : u1 + o1 = S1 + (o1 + 7) := z1; omega
          obtain rfl : u2 = S2 + 9 := by show u2 = _; have z2' : u2 + o2 = S2 + (o2 + 9) := z2; omega
          have HKT := Lib.hid hkt
          have HL9 := Lib.hid (HL8.out.new hB)
          have x3 : w9.cell? ⟨B, 1, none⟩ = some (.int .i64 x.b) := (HBX.out.but HL9.out.but (fun h => h)).cell 1
          have HD9 := Lib.hid (ld_drop HL9.out.at_ hxb)
          clear z1 z2 hu1 hu2 hkt hB x2 HO2 HS8
          go_wp2_with fail
          refine HD9.out.mono ?_
          rintro e w10 ⟨rfl, hA, hB⟩
          have HL10 := Lib.hid (HL9.out.turn hA hB)
          have HO3 := Lib.hid (ld_of hA hxb)
          rw [upd_same, fl_zero] at HO3
          have HS10 := Lib.hid (ld_sum hA (by omega))
          have x4 : w10.cell? ⟨B, 1, none⟩ = some (.int .i64 x.b) := (HBX.out.but HL10.out.but (fun h => h)).cell 1
          clear hA hB x3 HD9
          go_wp2_with fail
          refine HO3.out.mono ?_
          rintro e w11 ⟨rfl, rfl⟩
          go_wp2_with fail
          refine HS10.out.mono ?_
          rintro e w11 ⟨⟨uu, hku, _, rfl⟩, hB⟩
          have z1 := s1_upd HKT.out hku
          have z2 := s2_upd HKT.out hku
          rw [← HUU.out.1, upd_same] at z1
          rw [← HUU.out.2, upd_same] at z2
          obtain ⟨t1, ht1⟩ : ∃ t1, t1 = s1 (upd (upd f x.b (o1 + 7, o2 + 9)) x.b (0, 0)) uu := ⟨_, rfl⟩
          obtain ⟨t2, ht2⟩ : ∃ t2, t2 = s2 (upd (upd f x.b (o1 + 7, o2 + 9)) x.b (0, 0)) uu := ⟨_, rfl⟩
          rw [← ht1] at z1 ⊢
          rw [← ht2] at z2 ⊢
          obtain rfl : t1 = S1 - o1 := by have z1' : t1 + (o1 + 7) = S1 + 7 + 0 := z1; omega
          obtain rfl : t2 = S2 - o2 := by have z2' : t2 + (o2 + 9) = S2 + 9 + 0 := z2; omega
          have HLE := Lib.hid (HL10.out.new hB)
          clear z1 z2 ht1 ht2 hku hB
          go_wp2_with fail
          go_ret
          exact ⟨rfl, HB0.out.trans' HLE.out.but⟩
end Go.Proofs.Ytomeehecegehbaa.Ld
