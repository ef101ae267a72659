/- The law's own calls: pick, ordered, and the document's example. -/
import Derived.Test.YtdkknjgjogekiaaExpRef
namespace Go.Proofs.Ytdkknjgjogekiaa.Exp
open Go.Proofs.Ytdkknjgjogekiaa.Mem
open Go.ChangeShapes Go.WideShapes Go.ChangeAt Go.RowKit
set_option linter.unusedVariables false
set_option linter.unusedSimpArgs false
section
variable {w w' : World} {l m : List It}
def pickOf (c : Int) : Nat := ((if c < 0 then -(c + 1) else c) % 4).toNat
theorem pickOf_lt (c : Int) : pickOf c < 4 := by unfold pickOf; split <;> omega
set_option maxRecDepth 100000 in
set_option maxHeartbeats 1000000 in
theorem pick_any (w : World) (c : Int) (hc : -9223372036854775808 ≤ c ∧ c ≤ 9223372036854775807) :
    Calls Try.prog 7 #[.int .i64 c, .int .i64 4] w fun e w' => e = .returned (.int .i64 (pickOf c : Int)) ∧ w' = w := by
  obtain ⟨h1, h2⟩ := hc
  by_cases h : c < 0
  · have e1 : IntKind.i64.wrap (c + 1) = c + 1 := by simp [IntKind.wrap, IntKind.bits, IntKind.signed]; omega
    have e2 : IntKind.i64.wrap (-(c + 1)) = -(c + 1) := by simp [IntKind.wrap, IntKind.bits, IntKind.signed]; omega
    have e3 : (-(c + 1)).tmod 4 = (pickOf c : Int) := by unfold pickOf; rw [if_pos h, Int.tmod_eq_emod_of_nonneg (by omega)]; omega
    go_enter Try.func7, Try.ntmps7
    go_wp2_with fail
    go_ret
    exact ⟨by simp, rfl⟩
  · have e3 : c.tmod 4 = (pickOf c : Int) := by unfold pickOf; rw [if_neg h, Int.tmod_eq_emod_of_nonneg (by omega)]; omega
    go_enter Try.func7, Try.ntmps7
    go_wp2_with fail
    go_ret
    exact ⟨by simp, rfl⟩
theorem box_put {t : TypeId} (w : World) (x : It) : Blk ((w.alloc (.cells #[.int .u64 0, .string ⟨#[]⟩] t)).setCells w.heap.size 0 (icells x)) w.heap.size t #[.int .u64 (x.time : Int), .string x.key] ∧ But (fun _ => False) w ((w.alloc (.cells #[.int .u64 0, .string ⟨#[]⟩] t)).setCells w.heap.size 0 (icells x)) := by
  have h := Blk.new w t #[.int .u64 0, .string ⟨#[]⟩]
  have h1 : Blk ((w.alloc (.cells #[.int .u64 0, .string ⟨#[]⟩] t)).setCells w.heap.size 0 (icells x)) w.heap.size t ([] ++ icells x ++ []).toArray := blk_setCells (A := []) (B := icells nil) (C := []) h rfl
  exact ⟨h1, ((But.refl (fun _ => False) w).alloc _).trans (but_setCells _ _ _ _) (fun i hi e => by omega)⟩
theorem box_there {t : TypeId} (w : World) : (w.alloc (.cells #[.int .u64 0, .string ⟨#[]⟩] t)).there w.heap.size 0 2 := by
  have h := Blk.new w t #[.int .u64 0, .string ⟨#[]⟩]
  intro j hj
  refine ⟨?_, h.frozen _⟩
  rw [h.cell]
  rcases j with _ | _ | j
  · rfl
  · rfl
  · omega
set_option maxRecDepth 100000 in
set_option maxHeartbeats 1000000 in
theorem ordered_any {a : Option Addr} {n c : Nat} (h : Shows w 29 a l) (hn : n = l.length) (hn2 : n ≤ 1000) (hh : Hp l) :
    Calls Try.prog 14 #[.slice a n c] w fun e w' => e = .returned (.bool true) ∧ But (fun _ => False) w w' := by
  have HS := Lib.hid h
  have HH := Lib.hid hh
  have HN := Lib.hid hn
  clear h hh hn
  go_enter Try.func14, Try.ntmps14
  go_wp2_with fail
  go_loopw [3] (fun x wr => ∃ k : Nat, x = .int .i64 (k : Int) ∧ 1 ≤ k ∧ (k ≤ n ∨ k = 1) ∧ But (fun _ => False) w wr) (fun x _ => n + 1 - (intOf x).toNat)
  case atStart => exact ⟨1, rfl, Nat.le_refl _, .inr rfl, But.refl _ _⟩
  case round =>
    obtain ⟨k, rfl, hk1, hk, hB⟩ := hrel
    have HB := Lib.hid hB
    by_cases hlt : k < n
    · obtain ⟨P, hP⟩ : ∃ P, P = par k := ⟨_, rfl⟩
      have hpk := par_lt (i := k) (by omega)
      rw [← hP] at hpk
      have hq : ((k : Int) - 1).tdiv 2 = (P : Int) := by rw [hP, Int.tdiv_eq_ediv_of_nonneg (by omega)]; unfold par; omega
      obtain ⟨g, off, ha, hg, hr1⟩ := HS.out.cells (i := P) (by have := HN.out; omega)
      obtain ⟨g2, off2, ha2, hg2, hr2⟩ := HS.out.cells (i := k) (by have := HN.out; omega)
      rw [ha] at ha2
      injection ha2 with ha2
      injection ha2 with e1 e2
      subst e1 e2
      have HLE := Lib.hid (show lt (look l k) (look l P) = false by rw [hP]; exact HH.out k (by omega) (by have := HN.out; omega))
      have HA := Lib.hid ha
      obtain ⟨x, hx⟩ : ∃ x, x = look l P := ⟨_, rfl⟩
      obtain ⟨y, hy⟩ : ∃ y, y = look l k := ⟨_, rfl⟩
      rw [← hx] at hr1 HLE
      rw [← hy] at hr2 HLE
      have HC := Lib.hid (show ∀ V, But (fun _ => False) wr V → V.cell? ⟨g, off + P * 2, none⟩ = some (.int .u64 (x.time : Int)) ∧ V.cell? ⟨g, off + P * 2 + 1, none⟩ = some (.string x.key) ∧ V.cell? ⟨g, off + k * 2, none⟩ = some (.int .u64 (y.time : Int)) ∧ V.cell? ⟨g, off + k * 2 + 1, none⟩ = some (.string y.key) from fun V hV => by
        have hb := HB.out.trans hV (fun _ _ h => h)
        exact ⟨(hb.cell (p := ⟨g, off + P * 2, none⟩) hg (fun h => h)).trans (hr1 0 _ rfl), (hb.cell (p := ⟨g, off + P * 2 + 1, none⟩) hg (fun h => h)).trans (hr1 1 _ rfl), (hb.cell (p := ⟨g, off + k * 2, none⟩) hg (fun h => h)).trans (hr2 0 _ rfl), (hb.cell (p := ⟨g, off + k * 2 + 1, none⟩) hg (fun h => h)).trans (hr2 1 _ rfl)⟩)
      have hpn : (P : Int) < (n : Int) := by omega
      have hkn : (k : Int) < (n : Int) := by omega
      have hwk : IntKind.i64.wrap ((k : Int) - 1) = (k : Int) - 1 := by simp [IntKind.wrap, IntKind.signed, IntKind.bits]; omega
      have hwp : IntKind.i64.wrap (P : Int) = (P : Int) := by simp [IntKind.wrap, IntKind.signed, IntKind.bits]; omega
      rw [ha]
      clear hB hx hy hr1 hr2 hg hg2 ha hP
      go_wp2_with fail
      refine Late.region_goes (fun V => But (fun _ => False) wr V) (fun i => i == 16) (by kernel_rfl) ?_ (fun hH => ?_)
      · exact (But.refl _ wr).drew
      refine Late.Goes.takeT (i := 0) (v := ?_) (by simp only [List.getElem?_toArray, List.getElem?_cons_succ, List.getElem?_cons_zero]; rfl) (by kernel_rfl) (by kernel_rfl) (by kernel_rfl) (by kernel_rfl) (by kernel_rfl) (by exact fun _ _ _ h => h) (Or.inl ⟨by rfl, ?_⟩) hH ?_
      rotate_left
      · (intro wy hSw; (try dsimp only at hSw); obtain ⟨p0, p1, k0, k1⟩ := HC.out wy hSw; go_simp; try (with_reducible rfl))
      try simp only [Act.put, List.setIfInBounds_toArray, List.set_cons_zero, List.set_cons_succ]
      refine Late.Goes.takeT (i := 1) (v := ?_) (by simp only [List.getElem?_toArray, List.getElem?_cons_succ, List.getElem?_cons_zero]; rfl) (by kernel_rfl) (by kernel_rfl) (by kernel_rfl) (by kernel_rfl) (by kernel_rfl) (by exact fun _ _ _ h => h) (Or.inl ⟨by rfl, ?_⟩) hH ?_
      rotate_left
      · (intro wy hSw; (try dsimp only at hSw); obtain ⟨p0, p1, k0, k1⟩ := HC.out wy hSw; go_simp; try (with_reducible rfl))
      try simp only [Act.put, List.setIfInBounds_toArray, List.set_cons_zero, List.set_cons_succ]
      refine Late.Goes.takeT (i := 2) (v := ?_) (by simp only [List.getElem?_toArray, List.getElem?_cons_succ, List.getElem?_cons_zero]; rfl) (by kernel_rfl) (by kernel_rfl) (by kernel_rfl) (by kernel_rfl) (by kernel_rfl) (by exact fun _ _ _ h => h) (Or.inl ⟨by rfl, ?_⟩) hH ?_
      rotate_left
      · (intro wy hSw; (try dsimp only at hSw); obtain ⟨p0, p1, k0, k1⟩ := HC.out wy hSw; go_simp; try (with_reducible rfl))
      try simp only [Act.put, List.setIfInBounds_toArray, List.set_cons_zero, List.set_cons_succ]
      refine Late.Goes.takeT (i := 3) (v := ?_) (by simp only [List.getElem?_toArray, List.getElem?_cons_succ, List.getElem?_cons_zero]; rfl) (by kernel_rfl) (by kernel_rfl) (by kernel_rfl) (by kernel_rfl) (by kernel_rfl) (by exact fun _ _ _ h => h) (Or.inl ⟨by rfl, ?_⟩) hH ?_
      rotate_left
      · (intro wy hSw; (try dsimp only at hSw); obtain ⟨p0, p1, k0, k1⟩ := HC.out wy hSw; go_simp; try (with_reducible rfl))
      try simp only [Act.put, List.setIfInBounds_toArray, List.set_cons_zero, List.set_cons_succ]
      refine Late.Goes.takeT (i := 4) (v := ?_) (by simp only [List.getElem?_toArray, List.getElem?_cons_succ, List.getElem?_cons_zero]; rfl) (by kernel_rfl) (by kernel_rfl) (by kernel_rfl) (by kernel_rfl) (by kernel_rfl) (by exact fun _ _ _ h => h) (Or.inl ⟨by rfl, ?_⟩) hH ?_
      rotate_left
      · (intro wy hSw; (try dsimp only at hSw); obtain ⟨p0, p1, k0, k1⟩ := HC.out wy hSw; go_simp; try (with_reducible rfl))
      try simp only [Act.put, List.setIfInBounds_toArray, List.set_cons_zero, List.set_cons_succ]
      refine Late.Goes.takeT (i := 5) (v := ?_) (by simp only [List.getElem?_toArray, List.getElem?_cons_succ, List.getElem?_cons_zero]; rfl) (by kernel_rfl) (by kernel_rfl) (by kernel_rfl) (by kernel_rfl) (by kernel_rfl) (by exact fun _ _ _ h => h) (Or.inl ⟨by rfl, ?_⟩) hH ?_
      rotate_left
      · (intro wy hSw; (try dsimp only at hSw); obtain ⟨p0, p1, k0, k1⟩ := HC.out wy hSw; go_simp; try (with_reducible rfl))
      try simp only [Act.put, List.setIfInBounds_toArray, List.set_cons_zero, List.set_cons_succ]
      refine Late.Goes.takeT (i := 6) (v := ?_) (by simp only [List.getElem?_toArray, List.getElem?_cons_succ, List.getElem?_cons_zero]; rfl) (by kernel_rfl) (by kernel_rfl) (by kernel_rfl) (by kernel_rfl) (by kernel_rfl) (by exact fun _ _ _ h => h) (Or.inl ⟨by rfl, ?_⟩) hH ?_
      rotate_left
      · (intro wy hSw; (try dsimp only at hSw); obtain ⟨p0, p1, k0, k1⟩ := HC.out wy hSw; go_simp; try (with_reducible rfl))
      try simp only [Act.put, List.setIfInBounds_toArray, List.set_cons_zero, List.set_cons_succ]
      refine Late.Goes.takeT (i := 7) (v := ?_) (by simp only [List.getElem?_toArray, List.getElem?_cons_succ, List.getElem?_cons_zero]; rfl) (by kernel_rfl) (by kernel_rfl) (by kernel_rfl) (by kernel_rfl) (by kernel_rfl) (by exact fun _ _ _ h => h) (Or.inl ⟨by rfl, ?_⟩) hH ?_
      rotate_left
      · (intro wy hSw; (try dsimp only at hSw); obtain ⟨p0, p1, k0, k1⟩ := HC.out wy hSw; go_simp; try (with_reducible rfl))
      try simp only [Act.put, List.setIfInBounds_toArray, List.set_cons_zero, List.set_cons_succ]
      refine Late.Goes.takeT (i := 8) (v := ?_) (by simp only [List.getElem?_toArray, List.getElem?_cons_succ, List.getElem?_cons_zero]; rfl) (by kernel_rfl) (by kernel_rfl) (by kernel_rfl) (by kernel_rfl) (by kernel_rfl) (by exact fun _ _ _ h => h) (Or.inl ⟨by rfl, ?_⟩) hH ?_
      rotate_left
      · (intro wy hSw; (try dsimp only at hSw); obtain ⟨p0, p1, k0, k1⟩ := HC.out wy hSw; go_simp; try (with_reducible rfl))
      try simp only [Act.put, List.setIfInBounds_toArray, List.set_cons_zero, List.set_cons_succ]
      refine Late.Goes.takeT (i := 9) (v := ?_) (by simp only [List.getElem?_toArray, List.getElem?_cons_succ, List.getElem?_cons_zero]; rfl) (by kernel_rfl) (by kernel_rfl) (by kernel_rfl) (by kernel_rfl) (by kernel_rfl) (by exact fun _ _ _ h => h) (Or.inl ⟨by rfl, ?_⟩) hH ?_
      rotate_left
      · (intro wy hSw; (try dsimp only at hSw); obtain ⟨p0, p1, k0, k1⟩ := HC.out wy hSw; go_simp; try (with_reducible rfl))
      try simp only [Act.put, List.setIfInBounds_toArray, List.set_cons_zero, List.set_cons_succ]
      refine Late.Goes.takeT (i := 10) (v := ?_) (by simp only [List.getElem?_toArray, List.getElem?_cons_succ, List.getElem?_cons_zero]; rfl) (by kernel_rfl) (by kernel_rfl) (by kernel_rfl) (by kernel_rfl) (by kernel_rfl) (by exact fun _ _ _ h => h) (Or.inl ⟨by rfl, ?_⟩) hH ?_
      rotate_left
      · (intro wy hSw; (try dsimp only at hSw); obtain ⟨p0, p1, k0, k1⟩ := HC.out wy hSw; go_simp; try (with_reducible rfl))
      try simp only [Act.put, List.setIfInBounds_toArray, List.set_cons_zero, List.set_cons_succ]
      refine Late.Goes.takeT (i := 11) (v := ?_) (by simp only [List.getElem?_toArray, List.getElem?_cons_succ, List.getElem?_cons_zero]; rfl) (by kernel_rfl) (by kernel_rfl) (by kernel_rfl) (by kernel_rfl) (by kernel_rfl) (by exact fun _ _ _ h => h) (Or.inl ⟨by rfl, ?_⟩) hH ?_
      rotate_left
      · (intro wy hSw; (try dsimp only at hSw); obtain ⟨p0, p1, k0, k1⟩ := HC.out wy hSw; go_simp; try (with_reducible rfl))
      try simp only [Act.put, List.setIfInBounds_toArray, List.set_cons_zero, List.set_cons_succ]
      refine Late.Goes.takeT (i := 12) (v := ?_) (by simp only [List.getElem?_toArray, List.getElem?_cons_succ, List.getElem?_cons_zero]; rfl) (by kernel_rfl) (by kernel_rfl) (by kernel_rfl) (by kernel_rfl) (by kernel_rfl) (by exact fun _ _ _ h => h) (Or.inl ⟨by rfl, ?_⟩) hH ?_
      rotate_left
      · (intro wy hSw; (try dsimp only at hSw); obtain ⟨p0, p1, k0, k1⟩ := HC.out wy hSw; go_simp; try (with_reducible rfl))
      try simp only [Act.put, List.setIfInBounds_toArray, List.set_cons_zero, List.set_cons_succ]
      refine Late.Goes.takeT (i := 13) (v := ?_) (by simp only [List.getElem?_toArray, List.getElem?_cons_succ, List.getElem?_cons_zero]; rfl) (by kernel_rfl) (by kernel_rfl) (by kernel_rfl) (by kernel_rfl) (by kernel_rfl) (by exact fun _ _ _ h => h) (Or.inl ⟨by rfl, ?_⟩) hH ?_
      rotate_left
      · (intro wy hSw; (try dsimp only at hSw); obtain ⟨p0, p1, k0, k1⟩ := HC.out wy hSw; go_simp; try (with_reducible rfl))
      try simp only [Act.put, List.setIfInBounds_toArray, List.set_cons_zero, List.set_cons_succ]
      refine Late.Goes.takeT (i := 14) (v := ?_) (by simp only [List.getElem?_toArray, List.getElem?_cons_succ, List.getElem?_cons_zero]; rfl) (by kernel_rfl) (by kernel_rfl) (by kernel_rfl) (by kernel_rfl) (by kernel_rfl) (by exact fun _ _ _ h => h) (Or.inl ⟨by rfl, ?_⟩) hH ?_
      rotate_left
      · (intro wy hSw; (try dsimp only at hSw); obtain ⟨p0, p1, k0, k1⟩ := HC.out wy hSw; go_simp; try (with_reducible rfl))
      try simp only [Act.put, List.setIfInBounds_toArray, List.set_cons_zero, List.set_cons_succ]
      refine Late.Goes.one (i := 15) (by kernel_rfl) (by simp only [List.getElem?_toArray, List.getElem?_cons_succ, List.getElem?_cons_zero]; rfl) (fun K hK => ?_)
      clear hH
      go_simp
      refine hK.out _ _ ?_ (fun hH => ?_)
      · exact fun _ => ((But.refl (fun _ => False) wr).alloc _).drew
      clear hK K
      have hH := hH rfl
      try simp only [Act.put, List.setIfInBounds_toArray, List.set_cons_zero, List.set_cons_succ]
      refine Late.Goes.one (i := 16) (by kernel_rfl) (by simp only [List.getElem?_toArray, List.getElem?_cons_succ, List.getElem?_cons_zero]; rfl) (fun K hK => ?_)
      clear hH
      obtain ⟨W2, hW2⟩ : ∃ W2, W2 = (wr.drew.alloc (.cells #[.int .u64 0, .string ⟨#[]⟩] 35)).setCells wr.heap.size 0 (icells x) := ⟨_, rfl⟩
      have hbx := box_put (t := 35) wr.drew x
      have hbt := box_there (t := 35) wr.drew
      refine wp_store_blk (by rfl) 35 _ _ rfl wr.heap.size 0 (icells x) rfl rfl (by rw [icells_length]; exact hbt) (by rw [icells_length]; exact ref_size) (icells_one _) ?_
      rw [show World.setCells (wr.alloc (.cells #[.int .u64 0, .string ⟨#[]⟩] 35)).drew wr.heap.size 0 (icells x) = W2 from by rw [hW2]; rfl]
      rw [show wr.drew.heap.size = wr.heap.size from rfl, ← hW2] at hbx
      have HX2 := Lib.hid hbx.1
      have HB2 := Lib.hid ((But.refl (fun _ => False) wr).drew.trans' hbx.2)
      clear hbx hbt hW2
      refine hK.out _ _ ?_ (fun _ => ?_)
      · exact fun h => by cases h
      clear hK K
      try simp only [Act.put, List.setIfInBounds_toArray, List.set_cons_zero, List.set_cons_succ]
      refine Late.Goes.done (by kernel_rfl) ?_ _
      go_wp2_with fail
      refine Late.region_goes (fun V => But (fun _ => False) wr V) (fun i => i == 12) (by kernel_rfl) ?_ (fun hH => ?_)
      · exact HB2.out.drew
      refine Late.Goes.takeT (i := 0) (v := ?_) (by simp only [List.getElem?_toArray, List.getElem?_cons_succ, List.getElem?_cons_zero]; rfl) (by kernel_rfl) (by kernel_rfl) (by kernel_rfl) (by kernel_rfl) (by kernel_rfl) (by exact fun _ _ _ h => h) (Or.inl ⟨by rfl, ?_⟩) hH ?_
      rotate_left
      · (intro wy hSw; (try dsimp only at hSw); obtain ⟨p0, p1, k0, k1⟩ := HC.out wy hSw; go_simp; try (with_reducible rfl))
      try simp only [Act.put, List.setIfInBounds_toArray, List.set_cons_zero, List.set_cons_succ]
      refine Late.Goes.takeT (i := 1) (v := ?_) (by simp only [List.getElem?_toArray, List.getElem?_cons_succ, List.getElem?_cons_zero]; rfl) (by kernel_rfl) (by kernel_rfl) (by kernel_rfl) (by kernel_rfl) (by kernel_rfl) (by exact fun _ _ _ h => h) (Or.inl ⟨by rfl, ?_⟩) hH ?_
      rotate_left
      · (intro wy hSw; (try dsimp only at hSw); obtain ⟨p0, p1, k0, k1⟩ := HC.out wy hSw; go_simp; try (with_reducible rfl))
      try simp only [Act.put, List.setIfInBounds_toArray, List.set_cons_zero, List.set_cons_succ]
      refine Late.Goes.takeT (i := 2) (v := ?_) (by simp only [List.getElem?_toArray, List.getElem?_cons_succ, List.getElem?_cons_zero]; rfl) (by kernel_rfl) (by kernel_rfl) (by kernel_rfl) (by kernel_rfl) (by kernel_rfl) (by exact fun _ _ _ h => h) (Or.inl ⟨by rfl, ?_⟩) hH ?_
      rotate_left
      · (intro wy hSw; (try dsimp only at hSw); obtain ⟨p0, p1, k0, k1⟩ := HC.out wy hSw; go_simp; try (with_reducible rfl))
      try simp only [Act.put, List.setIfInBounds_toArray, List.set_cons_zero, List.set_cons_succ]
      refine Late.Goes.takeT (i := 3) (v := ?_) (by simp only [List.getElem?_toArray, List.getElem?_cons_succ, List.getElem?_cons_zero]; rfl) (by kernel_rfl) (by kernel_rfl) (by kernel_rfl) (by kernel_rfl) (by kernel_rfl) (by exact fun _ _ _ h => h) (Or.inl ⟨by rfl, ?_⟩) hH ?_
      rotate_left
      · (intro wy hSw; (try dsimp only at hSw); obtain ⟨p0, p1, k0, k1⟩ := HC.out wy hSw; go_simp; try (with_reducible rfl))
      try simp only [Act.put, List.setIfInBounds_toArray, List.set_cons_zero, List.set_cons_succ]
      refine Late.Goes.takeT (i := 4) (v := ?_) (by simp only [List.getElem?_toArray, List.getElem?_cons_succ, List.getElem?_cons_zero]; rfl) (by kernel_rfl) (by kernel_rfl) (by kernel_rfl) (by kernel_rfl) (by kernel_rfl) (by exact fun _ _ _ h => h) (Or.inl ⟨by rfl, ?_⟩) hH ?_
      rotate_left
      · (intro wy hSw; (try dsimp only at hSw); obtain ⟨p0, p1, k0, k1⟩ := HC.out wy hSw; go_simp; try (with_reducible rfl))
      try simp only [Act.put, List.setIfInBounds_toArray, List.set_cons_zero, List.set_cons_succ]
      refine Late.Goes.takeT (i := 5) (v := ?_) (by simp only [List.getElem?_toArray, List.getElem?_cons_succ, List.getElem?_cons_zero]; rfl) (by kernel_rfl) (by kernel_rfl) (by kernel_rfl) (by kernel_rfl) (by kernel_rfl) (by exact fun _ _ _ h => h) (Or.inl ⟨by rfl, ?_⟩) hH ?_
      rotate_left
      · (intro wy hSw; (try dsimp only at hSw); obtain ⟨p0, p1, k0, k1⟩ := HC.out wy hSw; go_simp; try (with_reducible rfl))
      try simp only [Act.put, List.setIfInBounds_toArray, List.set_cons_zero, List.set_cons_succ]
      refine Late.Goes.takeT (i := 6) (v := ?_) (by simp only [List.getElem?_toArray, List.getElem?_cons_succ, List.getElem?_cons_zero]; rfl) (by kernel_rfl) (by kernel_rfl) (by kernel_rfl) (by kernel_rfl) (by kernel_rfl) (by exact fun _ _ _ h => h) (Or.inl ⟨by rfl, ?_⟩) hH ?_
      rotate_left
      · (intro wy hSw; (try dsimp only at hSw); obtain ⟨p0, p1, k0, k1⟩ := HC.out wy hSw; go_simp; try (with_reducible rfl))
      try simp only [Act.put, List.setIfInBounds_toArray, List.set_cons_zero, List.set_cons_succ]
      refine Late.Goes.takeT (i := 7) (v := ?_) (by simp only [List.getElem?_toArray, List.getElem?_cons_succ, List.getElem?_cons_zero]; rfl) (by kernel_rfl) (by kernel_rfl) (by kernel_rfl) (by kernel_rfl) (by kernel_rfl) (by exact fun _ _ _ h => h) (Or.inl ⟨by rfl, ?_⟩) hH ?_
      rotate_left
      · (intro wy hSw; (try dsimp only at hSw); obtain ⟨p0, p1, k0, k1⟩ := HC.out wy hSw; go_simp; try (with_reducible rfl))
      try simp only [Act.put, List.setIfInBounds_toArray, List.set_cons_zero, List.set_cons_succ]
      refine Late.Goes.takeT (i := 8) (v := ?_) (by simp only [List.getElem?_toArray, List.getElem?_cons_succ, List.getElem?_cons_zero]; rfl) (by kernel_rfl) (by kernel_rfl) (by kernel_rfl) (by kernel_rfl) (by kernel_rfl) (by exact fun _ _ _ h => h) (Or.inl ⟨by rfl, ?_⟩) hH ?_
      rotate_left
      · (intro wy hSw; (try dsimp only at hSw); obtain ⟨p0, p1, k0, k1⟩ := HC.out wy hSw; go_simp; try (with_reducible rfl))
      try simp only [Act.put, List.setIfInBounds_toArray, List.set_cons_zero, List.set_cons_succ]
      refine Late.Goes.takeT (i := 9) (v := ?_) (by simp only [List.getElem?_toArray, List.getElem?_cons_succ, List.getElem?_cons_zero]; rfl) (by kernel_rfl) (by kernel_rfl) (by kernel_rfl) (by kernel_rfl) (by kernel_rfl) (by exact fun _ _ _ h => h) (Or.inl ⟨by rfl, ?_⟩) hH ?_
      rotate_left
      · (intro wy hSw; (try dsimp only at hSw); obtain ⟨p0, p1, k0, k1⟩ := HC.out wy hSw; go_simp; try (with_reducible rfl))
      try simp only [Act.put, List.setIfInBounds_toArray, List.set_cons_zero, List.set_cons_succ]
      refine Late.Goes.takeT (i := 10) (v := ?_) (by simp only [List.getElem?_toArray, List.getElem?_cons_succ, List.getElem?_cons_zero]; rfl) (by kernel_rfl) (by kernel_rfl) (by kernel_rfl) (by kernel_rfl) (by kernel_rfl) (by exact fun _ _ _ h => h) (Or.inl ⟨by rfl, ?_⟩) hH ?_
      rotate_left
      · (intro wy hSw; (try dsimp only at hSw); obtain ⟨p0, p1, k0, k1⟩ := HC.out wy hSw; go_simp; try (with_reducible rfl))
      try simp only [Act.put, List.setIfInBounds_toArray, List.set_cons_zero, List.set_cons_succ]
      refine Late.Goes.one (i := 11) (by kernel_rfl) (by simp only [List.getElem?_toArray, List.getElem?_cons_succ, List.getElem?_cons_zero]; rfl) (fun K hK => ?_)
      clear hH
      go_simp
      refine hK.out _ _ ?_ (fun hH => ?_)
      · exact fun _ => (HB2.out.alloc _).drew
      clear hK K
      have hH := hH rfl
      try simp only [Act.put, List.setIfInBounds_toArray, List.set_cons_zero, List.set_cons_succ]
      refine Late.Goes.one (i := 12) (by kernel_rfl) (by simp only [List.getElem?_toArray, List.getElem?_cons_succ, List.getElem?_cons_zero]; rfl) (fun K hK => ?_)
      clear hH
      obtain ⟨W3, hW3⟩ : ∃ W3, W3 = (W2.drew.alloc (.cells #[.int .u64 0, .string ⟨#[]⟩] 35)).setCells W2.heap.size 0 (icells y) := ⟨_, rfl⟩
      have hbx := box_put (t := 35) W2.drew y
      have hbt := box_there (t := 35) W2.drew
      refine wp_store_blk (by rfl) 35 _ _ rfl W2.heap.size 0 (icells y) rfl rfl (by rw [icells_length]; exact hbt) (by rw [icells_length]; exact ref_size) (icells_one _) ?_
      rw [show World.setCells (W2.alloc (.cells #[.int .u64 0, .string ⟨#[]⟩] 35)).drew W2.heap.size 0 (icells y) = W3 from by rw [hW3]; rfl]
      rw [show W2.drew.heap.size = W2.heap.size from rfl, ← hW3] at hbx
      have HX3 := Lib.hid (HX2.out.but ((But.refl (fun _ => False) W2).drew.trans' hbx.2) (fun h => h))
      have HY3 := Lib.hid hbx.1
      have HB3 := Lib.hid ((HB2.out.drew).trans' hbx.2)
      clear hbx hbt hW3 HX2 HB2
      refine hK.out _ _ ?_ (fun _ => ?_)
      · exact fun h => by cases h
      clear hK K
      try simp only [Act.put, List.setIfInBounds_toArray, List.set_cons_zero, List.set_cons_succ]
      refine Late.Goes.done (by kernel_rfl) ?_ _
      have x0 : W3.cell? ⟨wr.heap.size, 0, none⟩ = some (.int .u64 (x.time : Int)) := HX3.out.cell 0
      have x1 : W3.cell? ⟨wr.heap.size, 1, none⟩ = some (.string x.key) := HX3.out.cell 1
      have y0 : W3.cell? ⟨W2.heap.size, 0, none⟩ = some (.int .u64 (y.time : Int)) := HY3.out.cell 0
      have y1 : W3.cell? ⟨W2.heap.size, 1, none⟩ = some (.string y.key) := HY3.out.cell 1
      have HBF := Lib.hid (before_any W3 y x)
      rw [HLE.out] at HBF
      go_wp2_with fail
      refine HBF.out.mono ?_
      rintro e w4 ⟨rfl, hB4⟩
      have HB4 := Lib.hid (HB.out.trans (HB3.out.trans' hB4) (fun _ _ h => h))
      clear x0 x1 y0 y1 hB4 HBF HB3 HX3 HY3
      go_wp2_with fail
      go_roundw
      case rel => exact ⟨k + 1, by go_num, by omega, .inl (by omega), HB4.out⟩
      case measure => simp [intOf]; omega
    · clear hB
      go_wp2_with fail
      go_ret
      exact ⟨rfl, HB.out⟩
end
end Go.Proofs.Ytdkknjgjogekiaa.Exp
