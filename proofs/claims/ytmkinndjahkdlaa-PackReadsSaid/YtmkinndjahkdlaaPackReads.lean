/- PackReads: what any bytes are read as: the walk of the law. -/
import Derived.Test.YtmkinndjahkdlaaPackPuts
namespace Go.Proofs.Ytmkinndjahkdlaa.Pack
open Go.Proofs.Ytmkinndjahkdlaa.Mem
open Go.ChangeShapes Go.WideShapes Go.ChangeAt Go.RowKit
set_option linter.unusedVariables false
set_option linter.unusedSimpArgs false

theorem Rd.drewN {w : World} {p D : Nat} {zs : List Int} {short : Bool} (h : Rd w p D zs short) (n : Nat) : Rd (w.drewN n) p D zs short := h.but (S := fun _ => False) ((But.refl _ w).drewN n) (fun h => h) (fun h => h)
theorem Rf.drewN {w : World} {q bd : Nat} {zs : List Int} {short : Bool} (h : Rf w q bd zs short) (n : Nat) : Rf (w.drewN n) q bd zs short := h.but (S := fun _ => False) ((But.refl _ w).drewN n) (fun h => h) (fun _ _ h => h)
theorem Rf.short {w : World} {q bd : Nat} {zs : List Int} {short : Bool} (h : Rf w q bd zs short) : w.cell? ⟨q, 2, none⟩ = some (.bool short) := by
  obtain ⟨B, at', a, cap, h0, h1, h2, _⟩ := h
  exact h2
theorem rf_new (w : World) (a : Option Addr) (zs : List Int) (cap : Nat) (hr : Row w a zs.length zs) (hlc : zs.length ≤ cap) (hcm : cap ≤ maxLen) (hB : zs.length ≤ 1073741824) (hnil : a = none → cap = 0) (bd : Nat) (hbd : ∀ x, a = some x → 0 < zs.length → x.block < bd) (t : TypeId) :
    Rf (w.alloc (.cells #[.slice a zs.length cap, .int .i64 0, .bool false] t)) w.heap.size bd zs false := by
  refine ⟨zs, 0, a, cap, ?_, ?_, ?_, ?_, ?_, hr.below ((Below.refl _ _).alloc (Nat.le_refl _) _), hlc, hcm, hB, Nat.zero_le _, ?_, hnil, .inr ⟨rfl, rfl⟩⟩
  · rw [World.cell?_alloc_at _ _ _ _ rfl]; rfl
  · rw [World.cell?_alloc_at _ _ _ _ rfl]; rfl
  · rw [World.cell?_alloc_at _ _ _ _ rfl]; rfl
  · rw [World.frozen?_alloc_at _ _ _ _ rfl]
  · rw [World.frozen?_alloc_at _ _ _ _ rfl]
  · intro p hp hn
    obtain ⟨b, off, he, hlt, _⟩ := hr.2.2 hn
    rw [hp] at he
    injection he with he
    subst he
    exact ⟨Nat.ne_of_lt hlt, hbd _ hp hn⟩
/- A slice of integers that came in. -/
def Ints (w : World) (a : Option Addr) (len : Nat) (xs : List Int) : Prop :=
  0 < len → ∃ b off, a = some ⟨b, off, none⟩ ∧ b < w.heap.size ∧ ∀ i, i < len → w.cell? ⟨b, off + i, none⟩ = some (.int .i64 (xs.getD i 0)) ∧ -9223372036854775808 ≤ xs.getD i 0 ∧ xs.getD i 0 ≤ 9223372036854775807
theorem ints_of_cells {w : World} {a : Option Addr} {len cap : Nat} {zs : List Int}
    (h : (a = none ∧ len = 0 ∧ cap = 0 ∧ zs = []) ∨
      ∃ x, a = some x ∧ len ≤ cap ∧ cap ≤ maxLen ∧ zs.length = cap ∧ (∀ i, i < zs.length → w.cell? (x.add i) = some (.int .i64 (zs.getD i 0))) ∧ ∀ n ∈ zs, (Lit.int .i64 n).wf = true) :
    Ints w a len zs ∧ len ≤ cap ∧ cap ≤ maxLen := by
  rcases h with ⟨rfl, rfl, rfl, rfl⟩ | ⟨x, rfl, hl, hm, hz, hcell, hwz⟩
  · exact ⟨fun h => absurd h (by omega), by omega, by simp⟩
  · refine ⟨fun hn => ?_, hl, hm⟩
    obtain ⟨b, off, spot⟩ := x
    have h0 := hcell 0 (by omega)
    have hspot : spot = none := by simpa [Addr.add] using World.cell?_spot h0
    subst hspot
    refine ⟨b, off, rfl, block_lt_of_cell (a := ⟨b, off, none⟩) (by simpa [Addr.add] using h0), fun i hi => ?_⟩
    have h1 := hcell i (by omega)
    rw [add_none] at h1
    refine ⟨h1, ?_⟩
    have hmem : zs.getD i 0 ∈ zs := by
      have : zs.getD i 0 = zs[i]'(by omega) := by simp [List.getD, show i < zs.length by omega]
      rw [this]; exact List.getElem_mem _
    have := hwz _ hmem
    simpa [Lit.wf, IntKind.min, IntKind.max, IntKind.signed, IntKind.bits] using this

set_option maxHeartbeats 1000000 in
theorem reads_long (a0 a1 : Option Addr) (len0 cap0 len1 cap1 : Nat) (w : World) (hm0 : len0 ≤ 9223372036854775807) (hm1 : len1 ≤ 9223372036854775807) (h : 2000 < len0 ∨ 100 < len1) :
    Calls Try.prog 4 #[.slice a0 len0 cap0, .slice a1 len1 cap1] w fun e w' => e = .returned (.bool true) ∧ Below w.heap.size w w' := by
  by_cases h0 : 2000 < len0
  · go_enter Try.func4, Try.ntmps4
    go_wp2_with fail
    refine (up_any w).mono ?_
    rintro e w1 ⟨rfl, hb1⟩
    go_wp2_with fail
    go_ret
    exact ⟨rfl, hb1⟩
  · have h1 : 100 < len1 := by omega
    go_enter Try.func4, Try.ntmps4
    go_wp2_with fail
    refine (up_any w).mono ?_
    rintro e w1 ⟨rfl, hb1⟩
    go_wp2_with fail
    go_ret
    exact ⟨rfl, hb1⟩

set_option maxHeartbeats 8000000 in
theorem reads_short (a0 a1 : Option Addr) (cap0 len1 cap1 : Nat) (zs xs : List Int) (w : World) (hx : Row w a0 zs.length zs) (hn0 : a0 = none → cap0 = 0) (hlc : zs.length ≤ cap0) (hcm : cap0 ≤ maxLen) (hi : Ints w a1 len1 xs) (h0 : zs.length ≤ 2000) (h1 : len1 ≤ 100) (hlc1 : len1 ≤ cap1) :
    Calls Try.prog 4 #[.slice a0 zs.length cap0, .slice a1 len1 cap1] w fun e w' => e = .returned (.bool true) ∧ Below w.heap.size w w' := by
  have ha0 : ∀ x, a0 = some x → 0 < zs.length → x.block < w.heap.size := by
    intro x hx0 hn
    obtain ⟨b, off, he, hlt, _⟩ := hx.2.2 hn
    rw [hx0] at he
    injection he with he
    subst he
    exact hlt
  have HN0 := Lib.hid hn0
  have HI := Lib.hid hi
  have HCM := Lib.hid hcm
  clear hn0 hi hcm
  go_enter Try.func4, Try.ntmps4
  go_wp2_with fail
  refine (up_any w).mono ?_
  rintro e w1 ⟨rfl, hb1⟩
  have hx1 := hx.below hb1
  go_wp2_with fail
  refine (new_any a0 _ cap0 zs w1 hx1 HN0.out (by omega)).mono ?_
  rintro e w2 ⟨p, rfl, hp, D, hrd2, hb2, hD1, hD2⟩
  have hx2 := hx1.below hb2
  go_wp2_with fail
  have hrf3 := rf_new w2 a0 zs cap0 hx2 hlc HCM.out (by omega) HN0.out w.heap.size ha0 33
  have hb3 : Below w2.heap.size w2 (w2.alloc (.cells #[.slice a0 zs.length cap0, .int .i64 0, .bool false] 33)) := (Below.refl _ _).alloc (Nat.le_refl _) _
  have hrd3 := hrd2.below hb3
  have hpq : p < w2.heap.size := World.block_lt_of_cell? w2 ⟨p, 1, none⟩ hrd2.1
  have hbA : Below w.heap.size w (w2.alloc (.cells #[.slice a0 zs.length cap0, .int .i64 0, .bool false] 33)) := (hb1.trans (hb2.mono hb1.size)).trans (hb3.mono (hb1.trans (hb2.mono hb1.size)).size)
  have hs1 := hb1.size
  obtain ⟨q, hq⟩ : ∃ q, q = w2.heap.size := ⟨_, rfl⟩
  obtain ⟨W, hW⟩ : ∃ W, W = w2.alloc (.cells #[.slice a0 zs.length cap0, .int .i64 0, .bool false] 33) := ⟨_, rfl⟩
  rw [← hW] at hrf3 hrd3 hbA ⊢
  rw [← hq] at hrf3 hpq ⊢
  clear hW hq hb3 hrd2 hx2 hx1 hx hb2 hlc
  go_loopw [8] (fun i wr => ∃ (j : Nat) (ys : List Int) (s : Bool), j ≤ len1 ∧ i = .int .i64 (j : Int) ∧ Rd wr p D ys s ∧ Rf wr q w.heap.size ys s ∧ Below w.heap.size w wr) (fun i _ => len1 - (intOf i).toNat)
  case atStart => exact ⟨0, zs, false, by omega, rfl, hrd3, hrf3, hbA⟩
  case round =>
    clear hrd3 hrf3 hbA
    obtain ⟨j, ys, s, hj, rfl, hrd, hrf, hbr⟩ := hrel
    by_cases hlt : j < len1
    · obtain ⟨lb, lo, rfl, hlb, hcell⟩ := HI.out (by omega)
      obtain ⟨hc0, hc1, hc2⟩ := hcell j hlt
      have hc := (hbr.cell (p := ⟨lb, lo + j, none⟩) hlb).trans hc0
      obtain ⟨x, hx⟩ : ∃ x, x = xs.getD j 0 := ⟨_, rfl⟩
      rw [← hx] at hc hc1 hc2
      clear hx hcell hc0
      have HRD := Lib.hid hrd
      have HRF := Lib.hid hrf
      have HBR := Lib.hid hbr
      clear hrd hrf hbr
      have hps : w.heap.size ≤ p := by omega
      have hqs : w.heap.size ≤ q := by omega
      by_cases hx0 : x = 0
      · subst hx0
        go_wp2_with fail
        refine (text_any p ys s wr HRD.out).mono ?_
        rintro e w4 ⟨rfl, hrd4, hbut4⟩
        have hrf4 := HRF.out.but hbut4 (by omega) (fun k hk => by omega)
        have hbl4 := HBR.out.trans (hbut4.below HBR.out.size (fun k hk => by omega))
        clear hc
        go_wp2_with fail
        refine (refText_read q ys s w4 hrf4 HRD.out.2.2.2.2.1).mono ?_
        rintro e w5 ⟨rfl, hrf5, hbut5⟩
        have hrd5 := hrd4.but hbut5 (by omega) (by omega)
        have hbl5 := hbl4.trans (hbut5.below hbl4.size (fun k hk => by omega))
        have hq5 := hrf5.short
        clear hbut4 hbut5 hrf4 hrd4 hbl4
        go_wp2_with fail
        go_quiet ((first
          | (go_at_call 16; exact quiet_same (left_any p (textLeft ys) (textShort ys s) _ (hrd5.drewN _)))
          | (go_at_call 17; exact Calls.quiet_of (refLeft_any q (textLeft ys) (textShort ys s) _ (hrf5.drewN _)))
          | (go_at_call 18; exact quiet_same (short_any p (textLeft ys) (textShort ys s) _ (hrd5.drewN _)))))
        go_wp2_with fail
        go_roundw
        case rel => exact ⟨j + 1, (textLeft ys), (textShort ys s), by omega, by go_num, hrd5.drewN _, hrf5.drewN _, ⟨hbl5.os, hbl5.tape, hbl5.output, hbl5.size, hbl5.block⟩⟩
        case measure => simp [intOf]; omega
      · by_cases hk : x < 1 ∨ 8 < x
        · have hq5 := HRF.out.short
          have hrd := HRD.out
          have hrf := HRF.out
          have hlt' : (j : Int) < (len1 : Int) := by omega
          go_wp2_with fail
          go_quiet ((first
            | (go_at_call 14; exact quiet_same (number_none p x hk _))
            | (go_at_call 15; exact quiet_same (refNumber_none q x hk _))))
          have hrdN := hrd.drewN nq
          have hrfN := hrf.drewN nq
          have hblN : Below w.heap.size w (wr.drewN nq) := ⟨HBR.out.os, HBR.out.tape, HBR.out.output, HBR.out.size, HBR.out.block⟩
          obtain ⟨W2, hW2⟩ : ∃ W2, W2 = wr.drewN nq := ⟨_, rfl⟩
          rw [← hW2] at hrdN hrfN hblN ⊢
          clear hW2 hc hq5 hrd hrf
          have hq5 := hrfN.short
          go_wp2_with fail
          go_quiet ((first
            | (go_at_call 16; exact quiet_same (left_any p ys s _ (hrdN.drewN _)))
            | (go_at_call 17; exact Calls.quiet_of (refLeft_any q ys s _ (hrfN.drewN _)))
            | (go_at_call 18; exact quiet_same (short_any p ys s _ (hrdN.drewN _)))))
          go_wp2_with fail
          go_roundw
          case rel => exact ⟨j + 1, ys, s, by omega, by go_num, hrdN.drewN _, hrfN.drewN _, ⟨hblN.os, hblN.tape, hblN.output, hblN.size, hblN.block⟩⟩
          case measure => simp [intOf]; omega
        · obtain ⟨k, rfl⟩ : ∃ k : Nat, x = (k : Int) := ⟨x.toNat, by omega⟩
          have hlt' : (j : Int) < (len1 : Int) := by omega
          have hge' : (0 : Int) ≤ (j : Int) := by omega
          have hcd := fun (w' : World) (h : Below w.heap.size wr w') => (h.cell (p := ⟨lb, lo + j, none⟩) hlb).trans hc
          have HCD := Lib.hid hcd
          have hk1 : 1 ≤ k := by omega
          have hk8 : k ≤ 8 := by omega
          clear hcd hk hx0 hc1 hc2
          go_wp2_with fail
          clear hc
          refine wp_region_held_drew (S := (fun w' => w'.cell? ⟨lb, lo + j, none⟩ = some (.int .i64 (k : Int)))) (by kernel_rfl) ?_ (fun hH => ?_)
          · exact HCD.out _ (Below.refl _ _).drew
          refine wpAnyH_take (i := 0) (v := ?_) (by simp only [List.getElem?_toArray, List.getElem?_cons_succ, List.getElem?_cons_zero]; rfl) (by kernel_rfl) (by kernel_rfl) (by kernel_rfl) (by exact fun _ _ _ h => h) (Or.inl ⟨by rfl, ?_⟩) hH ?_
          rotate_left
          · (intro wy hSw; (try dsimp only at hSw); go_simp; try (with_reducible rfl))
          try simp only [Act.put, List.setIfInBounds_toArray, List.set_cons_zero, List.set_cons_succ]
          refine wpAnyH_take (i := 1) (v := ?_) (by simp only [List.getElem?_toArray, List.getElem?_cons_succ, List.getElem?_cons_zero]; rfl) (by kernel_rfl) (by kernel_rfl) (by kernel_rfl) (by exact fun _ _ _ h => h) (Or.inl ⟨by rfl, ?_⟩) hH ?_
          rotate_left
          · (intro wy hSw; (try dsimp only at hSw); go_simp; try (with_reducible rfl))
          try simp only [Act.put, List.setIfInBounds_toArray, List.set_cons_zero, List.set_cons_succ]
          refine wpAnyH_take (i := 2) (v := ?_) (by simp only [List.getElem?_toArray, List.getElem?_cons_succ, List.getElem?_cons_zero]; rfl) (by kernel_rfl) (by kernel_rfl) (by kernel_rfl) (by exact fun _ _ _ h => h) (Or.inl ⟨by rfl, ?_⟩) hH ?_
          rotate_left
          · (intro wy hSw; (try dsimp only at hSw); go_simp; try (with_reducible rfl))
          try simp only [Act.put, List.setIfInBounds_toArray, List.set_cons_zero, List.set_cons_succ]
          refine wpAnyH_take (i := 3) (v := ?_) (by simp only [List.getElem?_toArray, List.getElem?_cons_succ, List.getElem?_cons_zero]; rfl) (by kernel_rfl) (by kernel_rfl) (by kernel_rfl) (by exact fun _ _ _ h => h) (Or.inl ⟨by rfl, ?_⟩) hH ?_
          rotate_left
          · (intro wy hSw; (try dsimp only at hSw); go_simp; try (with_reducible rfl))
          try simp only [Act.put, List.setIfInBounds_toArray, List.set_cons_zero, List.set_cons_succ]
          refine wpAnyH_take (i := 4) (v := ?_) (by simp only [List.getElem?_toArray, List.getElem?_cons_succ, List.getElem?_cons_zero]; rfl) (by kernel_rfl) (by kernel_rfl) (by kernel_rfl) (by exact fun _ _ _ h => h) (Or.inl ⟨by rfl, ?_⟩) hH ?_
          rotate_left
          · (intro wy hSw; (try dsimp only at hSw); go_simp; try (with_reducible rfl))
          try simp only [Act.put, List.setIfInBounds_toArray, List.set_cons_zero, List.set_cons_succ]
          refine wpAnyH_take (i := 6) (v := ?_) (by simp only [List.getElem?_toArray, List.getElem?_cons_succ, List.getElem?_cons_zero]; rfl) (by kernel_rfl) (by kernel_rfl) (by kernel_rfl) (by exact fun _ _ _ h => h) (Or.inl ⟨by rfl, ?_⟩) hH ?_
          rotate_left
          · (intro wy hSw; (try dsimp only at hSw); go_simp; try (with_reducible rfl))
          try simp only [Act.put, List.setIfInBounds_toArray, List.set_cons_zero, List.set_cons_succ]
          refine wpAnyH_take (i := 7) (v := ?_) (by simp only [List.getElem?_toArray, List.getElem?_cons_succ, List.getElem?_cons_zero]; rfl) (by kernel_rfl) (by kernel_rfl) (by kernel_rfl) (by exact fun _ _ _ h => h) (Or.inl ⟨by rfl, ?_⟩) hH ?_
          rotate_left
          · (intro wy hSw; (try dsimp only at hSw); go_simp; try (with_reducible rfl))
          try simp only [Act.put, List.setIfInBounds_toArray, List.set_cons_zero, List.set_cons_succ]
          refine wpAnyH_take (i := 8) (v := ?_) (by simp only [List.getElem?_toArray, List.getElem?_cons_succ, List.getElem?_cons_zero]; rfl) (by kernel_rfl) (by kernel_rfl) (by kernel_rfl) (by exact fun _ _ _ h => h) (Or.inl ⟨by rfl, ?_⟩) hH ?_
          rotate_left
          · (intro wy hSw; (try dsimp only at hSw); go_simp; try (with_reducible rfl))
          try simp only [Act.put, List.setIfInBounds_toArray, List.set_cons_zero, List.set_cons_succ]
          refine wpAnyH_take (i := 9) (v := ?_) (by simp only [List.getElem?_toArray, List.getElem?_cons_succ, List.getElem?_cons_zero]; rfl) (by kernel_rfl) (by kernel_rfl) (by kernel_rfl) (by exact fun _ _ _ h => h) (Or.inl ⟨by rfl, ?_⟩) hH ?_
          rotate_left
          · (intro wy hSw; (try dsimp only at hSw); go_simp; try (with_reducible rfl))
          try simp only [Act.put, List.setIfInBounds_toArray, List.set_cons_zero, List.set_cons_succ]
          refine wpAnyH_take (i := 10) (v := ?_) (by simp only [List.getElem?_toArray, List.getElem?_cons_succ, List.getElem?_cons_zero]; rfl) (by kernel_rfl) (by kernel_rfl) (by kernel_rfl) (by exact fun _ _ _ h => h) (Or.inl ⟨by rfl, ?_⟩) hH ?_
          rotate_left
          · (intro wy hSw; (try dsimp only at hSw); go_simp; try (with_reducible rfl))
          try simp only [Act.put, List.setIfInBounds_toArray, List.set_cons_zero, List.set_cons_succ]
          refine wpAnyH_ready (rs := [5]) (by kernel_rfl) (by simp) ?_
          refine AllReadyH.cons (by simp only [List.getElem?_toArray, List.getElem?_cons_succ, List.getElem?_cons_zero]; rfl) (fun K hK => ?_) AllReadyH.nil
          clear hH
          go_simp
          have hrd0 : Rd wr.drew p D ys s := HRD.out.drewN 1
          refine (number_any p ys s k hk1 hk8 wr.drew hrd0).mono ?_
          rintro e w4 ⟨rfl, hrd4, hbut4⟩
          have hrf4 := (HRF.out.drewN 1).but hbut4 (by omega) (fun k hk => by omega)
          have hbw4 : Below w.heap.size wr w4 := (Below.refl _ wr).drew.trans (hbut4.below HBR.out.size (fun k hk => by omega))
          have hbl4 := HBR.out.trans hbw4
          refine hK.out _ _ ?_ (fun hH => ?_)
          · exact HCD.out _ hbw4
          clear hK K
          try simp only [Act.put, List.setIfInBounds_toArray, List.set_cons_zero, List.set_cons_succ]
          refine wpAnyH_ready (rs := [11]) (by kernel_rfl) (by simp) ?_
          refine AllReadyH.cons (by simp only [List.getElem?_toArray, List.getElem?_cons_succ, List.getElem?_cons_zero]; rfl) (fun K hK => ?_) AllReadyH.nil
          clear hH
          go_simp
          refine (refNumber_any q ys s k hk1 hk8 w4 hrf4).mono ?_
          rintro e w5 ⟨rfl, hrf5, hbut5⟩
          have hrd5 := hrd4.but hbut5 (by omega) (by omega)
          have hbw5 : Below w.heap.size wr w5 := hbw4.trans (hbut5.below hbl4.size (fun k hk => by omega))
          have hbl5 := HBR.out.trans hbw5
          refine hK.out _ _ ?_ (fun hH => ?_)
          · exact HCD.out _ hbw5
          clear hK K
          try simp only [Act.put, List.setIfInBounds_toArray, List.set_cons_zero, List.set_cons_succ]
          refine wpAnyH_take (i := 12) (v := ?_) (by simp only [List.getElem?_toArray, List.getElem?_cons_succ, List.getElem?_cons_zero]; rfl) (by kernel_rfl) (by kernel_rfl) (by kernel_rfl) (by exact fun _ _ _ h => h) (Or.inl ⟨by rfl, ?_⟩) hH ?_
          rotate_left
          · (intro wy hSw; (try dsimp only at hSw); go_simp; try (with_reducible rfl))
          try simp only [Act.put, List.setIfInBounds_toArray, List.set_cons_zero, List.set_cons_succ]
          refine wpAnyH_done (by kernel_rfl) ?_ _
          have hq5 := hrf5.short
          clear hbut4 hbut5 hrf4 hrd4 hbl4
          go_wp2_with fail
          go_quiet ((first
            | (go_at_call 16; exact quiet_same (left_any p (left ys k) (shortBy ys k s) _ (hrd5.drewN _)))
            | (go_at_call 17; exact Calls.quiet_of (refLeft_any q (left ys k) (shortBy ys k s) _ (hrf5.drewN _)))
            | (go_at_call 18; exact quiet_same (short_any p (left ys k) (shortBy ys k s) _ (hrd5.drewN _)))))
          go_wp2_with fail
          go_roundw
          case rel => exact ⟨j + 1, (left ys k), (shortBy ys k s), by omega, by go_num, hrd5.drewN _, hrf5.drewN _, ⟨hbl5.os, hbl5.tape, hbl5.output, hbl5.size, hbl5.block⟩⟩
          case measure => simp [intOf]; omega
    · go_wp2_with fail
      go_ret
      exact ⟨rfl, hbr⟩
end Go.Proofs.Ytmkinndjahkdlaa.Pack
