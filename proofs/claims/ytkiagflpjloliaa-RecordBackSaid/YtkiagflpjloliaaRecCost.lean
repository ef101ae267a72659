/- What a record costs: the walks of record.Cost and of the reference's Cost. -/
import Derived.Test.YtkiagflpjloliaaRecPutAll
namespace Go.Proofs.Ytkiagflpjloliaa.Rec
open Go.Proofs.Ytkiagflpjloliaa.Mem Go.Proofs.Ytkiagflpjloliaa.Pack Go.Proofs.Ytkiagflpjloliaa.Err
open Go.ChangeShapes Go.WideShapes Go.ChangeAt Go.RowKit
set_option linter.unusedVariables false
set_option linter.unusedSimpArgs false

def costOf (r : Rcd) : Int := if May r then (((bytesOf r).length + 8 : Nat) : Int) else 0
theorem size_is (n : Int) (h0 : 0 ≤ n) (h : n ≤ 9000000000) (w : World) : Calls Try.prog 23 #[.int .i64 n] w fun e w' => e = .returned (.int .i64 (n + 8)) ∧ w = w' := by
  go_enter Try.func23, Try.ntmps23
  go_wp2
  go_ret
  exact ⟨ret_int (by omega), rfl⟩
set_option maxRecDepth 100000 in
set_option maxHeartbeats 2000000 in
theorem cost_any (r : Rcd) (hi : Is r) (w : World) : Calls Try.prog 11 #[rv r] w fun e w' => e = .returned (.int .i64 (costOf r)) ∧ Below w.heap.size w w' := by
  have hm := fun w => may_any r w
  have hp := fun hmr v len xs base w hown hb hl => rput_any r hmr hi v len xs base w hown hb hl
  simp only [rv, cells] at hm hp ⊢
  have HP := Lib.hid hp
  have HM := Lib.hid hm
  clear hm hp
  go_enter Try.func11, Try.ntmps11
  go_wp2_with fail
  refine (HM.out _).mono ?_
  rintro e w1 ⟨rfl, hb1⟩
  have hbox1 : Box w1 w.heap.size (cells r) := (hb1.block w.heap.size (by simp)).trans (heap_new w _)
  simp only [cells] at hbox1
  have hbw1 : Below w.heap.size w w1 := ((Below.refl _ w).alloc (Nat.le_refl _) _).trans (hb1.mono (by simp))
  have HBX := Lib.hid (show _ = _ from hbox1)
  have HB := Lib.hid hbw1
  clear hb1 hbox1 hbw1
  by_cases hmr : May r
  · rw [decide_eq_true hmr]
    have hc : costOf r = (((bytesOf r).length + 8 : Nat) : Int) := if_pos hmr
    have hbl := bytesOf_len hmr
    have HC := Lib.hid hc
    clear hc
    go_wp2_with (refine wpList_load_row rfl 27 _ rfl w.heap.size rfl 27 _ (0, 0) _ HBX.out Try.underlying27 rfl rec_size ?_)
    refine (HP.out hmr (.slice none 0 0) 0 [] w1.heap.size w1 (World.ownsRow_nil _ _ _ _) (Nat.le_refl _) (by omega)).mono ?_
    rintro e w2 ⟨v2, rfl, ho2, hb2⟩
    obtain ⟨a2, c2, rfl, hr2, hl2, -⟩ := own_shape (xs := bytesOf r) (by simpa using ho2) (bytesOf_bytes r)
    have HB2 := Lib.hid (HB.out.trans (hb2.mono HB.out.size))
    obtain ⟨m, hm⟩ : ∃ m, m = (bytesOf r).length := ⟨_, rfl⟩
    rw [← hm] at hbl HC ⊢
    clear ho2 hr2 hl2 hb2 HBX hm
    go_wp2_with fail
    refine (size_is (m : Int) (by omega) (by omega) _).mono ?_
    rintro e w3 ⟨rfl, rfl⟩
    go_wp2_with fail
    go_ret
    exact ⟨by rw [HC.out]; rfl, HB2.out⟩
  · rw [decide_eq_false hmr]
    have HC := Lib.hid (show costOf r = 0 from if_neg hmr)
    go_wp2_with fail
    go_ret
    exact ⟨by rw [HC.out]; rfl, HB.out⟩
set_option maxRecDepth 100000 in
set_option maxHeartbeats 2000000 in
theorem refCost_any (r : Rcd) (hmr : May r) (hi : Is r) (w : World) : Calls Try.prog 9 #[rv r] w fun e w' => e = .returned (.int .i64 (costOf r)) ∧ Below w.heap.size w w' := by
  have hp := fun v len xs base w hown hb hl => rbytes_any r hmr hi v len xs base w hown hb hl
  simp only [rv, cells] at hp ⊢
  have HP := Lib.hid hp
  have HC := Lib.hid (show costOf r = (((bytesOf r).length + 8 : Nat) : Int) from if_pos hmr)
  have hbl := bytesOf_len hmr
  clear hp
  go_enter Try.func9, Try.ntmps9
  go_wp2_with fail
  refine (HP.out (.slice none 0 0) 0 [] (w.alloc (.cells (cells r) 27)).heap.size _ (World.ownsRow_nil _ _ _ _) (Nat.le_refl _) (by omega)).mono ?_
  rintro e w2 ⟨v2, rfl, ho2, hb2⟩
  obtain ⟨a2, c2, rfl, hr2, hl2, -⟩ := own_shape (xs := bytesOf r) (by simpa using ho2) (bytesOf_bytes r)
  have HB2 := Lib.hid (((Below.refl _ w).alloc (Nat.le_refl _) _).trans (hb2.mono (by simp)))
  obtain ⟨m, hm⟩ : ∃ m, m = (bytesOf r).length := ⟨_, rfl⟩
  rw [← hm] at hbl HC ⊢
  clear ho2 hr2 hl2 hb2 hm
  go_wp2_with fail
  go_ret
  exact ⟨by rw [HC.out]; exact ret_int (by omega), HB2.out⟩
end Go.Proofs.Ytkiagflpjloliaa.Rec
