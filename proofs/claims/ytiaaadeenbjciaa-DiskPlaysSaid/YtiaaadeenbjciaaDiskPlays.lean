/- DiskPlays: the walk of the law. MADE BY gen-plays.py -/
import Derived.Test.YtiaaadeenbjciaaPlaysA
import Derived.Test.YtiaaadeenbjciaaPlaysB
import Derived.Test.YtiaaadeenbjciaaPlaysC
import Derived.Test.YtiaaadeenbjciaaPlaysD
import Derived.Test.YtiaaadeenbjciaaPlaysE
namespace Go.Proofs.Ytiaaadeenbjciaa.Disk
open Go.Proofs.Ytiaaadeenbjciaa Go.Proofs.Ytiaaadeenbjciaa.Mem
open Go.ChangeShapes Go.WideShapes Go.ChangeAt Go.RowKit
open Go.Proofs (encStr)
set_option linter.unusedVariables false
set_option linter.unusedSimpArgs false
set_option maxRecDepth 1000000 in
set_option maxHeartbeats 2000000 in
theorem plays_long (c : Int) (l : Option Addr) (ll cl : Nat) (w : World) (hll : ll ≤ 9223372036854775807) (h : 100 < ll) :
    Calls Try.prog 3 #[.int .i64 c, .slice l ll cl] w fun e w' => e = .returned (.bool true) ∧ Below w.heap.size w w' := by
  go_enter Try.func3, Try.ntmps3
  go_wp2_with fail
  refine (up_any w).mono ?_
  rintro e w1 ⟨rfl, hb1⟩
  go_wp2_with fail
  go_ret
  exact ⟨rfl, hb1⟩
set_option maxRecDepth 1000000 in
set_option maxHeartbeats 8000000 in
theorem plays_any (c : Int) (l : Option Addr) (ll cl : Nat) (w : World) (hll : ll ≤ 100) (hds : Deeds w w.heap.size l ll) :
    Calls Try.prog 3 #[.int .i64 c, .slice l ll cl] w fun e w' => e = .returned (.bool true) ∧ Below w.heap.size w w' := by
  have HDS := Lib.hid hds
  clear hds
  go_enter Try.func3, Try.ntmps3
  go_wp2_with fail
  refine (up_any w).mono ?_
  rintro e w1 ⟨rfl, hb1⟩
  go_wp2_with fail
  refine (new_any c w1).mono ?_
  rintro e w2 ⟨p, rfl, hp, hF, hb2⟩
  go_wp2_with fail
  have hx2 : Below w.heap.size w w2 := hb1.trans ((hb2.new).mono hb1.size)
  have hsz1 := hb1.size
  have hsz2 := hb2.size
  have HST : Hid (PRel w.heap.size w p w2.heap.size ll (.int .i64 0) (w2.alloc (.cells #[.int .i64 c, .slice none 0 0, .int .i64 0, .bool false, .int .i64 0, .int .i64 0, .bool false] 29))) := Lib.hid (by
    refine ⟨0, fresh c, grow (fun _ => False) w1 w2, fun k => k = w2.heap.size, Nat.zero_le _, rfl, ⟨hF.but (T := fun _ => False) ((But.refl _ w2).alloc _) (fun _ _ e => e), ⟨_, _, _, _, _, rat_fresh c w2, ?_, ?_⟩, ?_, ?_, ?_⟩, ⟨Nat.le_refl _, Nat.le_refl _, fun x hx => by cases hx⟩, hx2.alloc hx2.size _, ?_⟩
    · rintro k (h | h | ⟨x, hx, _⟩)
      · exact h
      · cases h
      · cases hx
    · rintro k rfl; simp
    · rintro k (hk | hk) e
      · exact hk.elim
      · omega
    · rintro k (hk | hk)
      · exact hk.elim
      · omega
    · rintro k rfl; omega
    · simp; omega)
  generalize w2.alloc (.cells #[.int .i64 c, .slice none 0 0, .int .i64 0, .bool false, .int .i64 0, .int .i64 0, .bool false] 29) = W0 at HST ⊢
  generalize w2.heap.size = rp at HST ⊢
  clear hF hb2 hb1 hx2 hsz1 hsz2 hp
  go_loopw [8, 9, 10, 11, 12, 13, 14, 15, 16] (fun i _ _ _ _ _ _ _ _ wr => PRel w.heap.size w p rp ll i wr) (fun i _ _ _ _ _ _ _ _ _ => ll - (intOf i).toNat)
  case atStart => exact HST.out
  case round =>
    clear HST
    obtain ⟨k, S, F, G, hk, rfl, hT, hfit, hbw, hBr⟩ := hrel
    by_cases hlt : k < ll
    · obtain ⟨b, off, rfl, hlb, hd⟩ := HDS.out (by omega)
      obtain ⟨d, hd0⟩ := hd k hlt
      have hdr := hd0.below hbw hlb
      have e0 := hdr.c0
      have e1 := hdr.c1
      have e2 := hdr.c2
      have e3 := hdr.c3
      have e4 := hdr.c4
      have e5 := hdr.c5
      have i0 : (0 : Int) ≤ (k : Int) := Int.natCast_nonneg _
      have i1 : (k : Int) < (ll : Int) := by omega
      have HBWR := Lib.hid hbw
      have HALL := Lib.hid (And.intro hdr (And.intro hT hfit))
      have hnm := hdr.name
      have hto := hdr.to
      have hbl := hdr.blen
      clear hd hd0 hdr hT hfit hbw
      by_cases u1 : 100 < d.name.size
      · have u1' : decide (100 < (d.name.size : Int)) = true := by simp; omega
        go_wp2_with fail
        go_ret
        exact ⟨rfl, HBWR.out.alloc hBr _⟩
      have u1' : decide (100 < (d.name.size : Int)) = false := by simp; omega
      by_cases u2 : 100 < d.to.size
      · have u2' : decide (100 < (d.to.size : Int)) = true := by simp; omega
        go_wp2_with fail
        go_ret
        exact ⟨rfl, HBWR.out.alloc hBr _⟩
      have u2' : decide (100 < (d.to.size : Int)) = false := by simp; omega
      by_cases u3 : 1000 < d.blen
      · have u3' : decide (1000 < (d.blen : Int)) = true := by simp; omega
        go_wp2_with fail
        go_ret
        exact ⟨rfl, HBWR.out.alloc hBr _⟩
      have u3' : decide (1000 < (d.blen : Int)) = false := by simp; omega
      obtain ⟨hdr, hT, hfit⟩ := HALL.out
      have hbw := HBWR.out
      clear HALL HBWR
      have hq0 : 0 ≤ pickOf d.what 10 ∧ pickOf d.what 10 ≤ 9 := by unfold pickOf; omega
      have hq1 : pickOf d.what 10 = 0 ∨ pickOf d.what 10 = 1 ∨ pickOf d.what 10 = 2 ∨ pickOf d.what 10 = 3 ∨ pickOf d.what 10 = 4 ∨ pickOf d.what 10 = 5 ∨ pickOf d.what 10 = 6 ∨ pickOf d.what 10 = 7 ∨ 8 ≤ pickOf d.what 10 := by omega
      clear e0 e1 e2 e3 e4 e5 i0 i1 u1' u2' u3'
      rcases hq1 with hK | hK | hK | hK | hK | hK | hK | hK | hK
      · refine plays_0 c ll cl b off w wr p rp k S F G d hll hlt hlb hdr hT hfit hbw hBr (by omega) (by omega) (by omega) (pickOf d.what 10) rfl hK (fun _ _ o _ _ h => by cases o <;> exact h) ?_
        intros
        rename_i hz
        change _ ∧ _
        refine ⟨?_, by simp [intOf]; omega⟩
        iterate 214 apply Exists.intro
        exact ⟨hz, rfl⟩
      · refine plays_1 c ll cl b off w wr p rp k S F G d hll hlt hlb hdr hT hfit hbw hBr (by omega) (by omega) (by omega) (pickOf d.what 10) rfl hK (fun _ _ o _ _ h => by cases o <;> exact h) ?_
        intros
        rename_i hz
        change _ ∧ _
        refine ⟨?_, by simp [intOf]; omega⟩
        iterate 214 apply Exists.intro
        exact ⟨hz, rfl⟩
      · refine plays_2 c ll cl b off w wr p rp k S F G d hll hlt hlb hdr hT hfit hbw hBr (by omega) (by omega) (by omega) (pickOf d.what 10) rfl hK (fun _ _ o _ _ h => by cases o <;> exact h) ?_
        intros
        rename_i hz
        change _ ∧ _
        refine ⟨?_, by simp [intOf]; omega⟩
        iterate 214 apply Exists.intro
        exact ⟨hz, rfl⟩
      · refine plays_3 c ll cl b off w wr p rp k S F G d hll hlt hlb hdr hT hfit hbw hBr (by omega) (by omega) (by omega) (pickOf d.what 10) rfl hK (fun _ _ o _ _ h => by cases o <;> exact h) ?_
        intros
        rename_i hz
        change _ ∧ _
        refine ⟨?_, by simp [intOf]; omega⟩
        iterate 214 apply Exists.intro
        exact ⟨hz, rfl⟩
      · refine plays_4 c ll cl b off w wr p rp k S F G d hll hlt hlb hdr hT hfit hbw hBr (by omega) (by omega) (by omega) (pickOf d.what 10) rfl hK (fun _ _ o _ _ h => by cases o <;> exact h) ?_
        intros
        rename_i hz
        change _ ∧ _
        refine ⟨?_, by simp [intOf]; omega⟩
        iterate 214 apply Exists.intro
        exact ⟨hz, rfl⟩
      · refine plays_5 c ll cl b off w wr p rp k S F G d hll hlt hlb hdr hT hfit hbw hBr (by omega) (by omega) (by omega) (pickOf d.what 10) rfl hK (fun _ _ o _ _ h => by cases o <;> exact h) ?_
        intros
        rename_i hz
        change _ ∧ _
        refine ⟨?_, by simp [intOf]; omega⟩
        iterate 214 apply Exists.intro
        exact ⟨hz, rfl⟩
      · refine plays_6 c ll cl b off w wr p rp k S F G d hll hlt hlb hdr hT hfit hbw hBr (by omega) (by omega) (by omega) (pickOf d.what 10) rfl hK (fun _ _ o _ _ h => by cases o <;> exact h) ?_
        intros
        rename_i hz
        change _ ∧ _
        refine ⟨?_, by simp [intOf]; omega⟩
        iterate 214 apply Exists.intro
        exact ⟨hz, rfl⟩
      · refine plays_7 c ll cl b off w wr p rp k S F G d hll hlt hlb hdr hT hfit hbw hBr (by omega) (by omega) (by omega) (pickOf d.what 10) rfl hK (fun _ _ o _ _ h => by cases o <;> exact h) ?_
        intros
        rename_i hz
        change _ ∧ _
        refine ⟨?_, by simp [intOf]; omega⟩
        iterate 214 apply Exists.intro
        exact ⟨hz, rfl⟩
      · by_cases hdn0 : S.down = true
        · refine plays_8A c ll cl b off w wr p rp k S F G d hll hlt hlb hdr hT hfit hbw hBr (by omega) (by omega) (by omega) (pickOf d.what 10) rfl hK hq0.2 hdn0 (fun _ _ o _ _ h => by cases o <;> exact h) ?_
          intros
          rename_i hz
          change _ ∧ _
          refine ⟨?_, by simp [intOf]; omega⟩
          iterate 214 apply Exists.intro
          exact ⟨hz, rfl⟩
        have hdn : S.down = false := by simpa using hdn0
        rcases hlk : look d.name.data.toList S.files with _ | f
        · refine plays_8B c ll cl b off w wr p rp k S F G d hll hlt hlb hdr hT hfit hbw hBr (by omega) (by omega) (by omega) (pickOf d.what 10) rfl hK hq0.2 hdn hlk (fun _ _ o _ _ h => by cases o <;> exact h) ?_
          intros
          rename_i hz
          change _ ∧ _
          refine ⟨?_, by simp [intOf]; omega⟩
          iterate 214 apply Exists.intro
          exact ⟨hz, rfl⟩
        by_cases hC1 : d.n < 0
        · refine plays_8C1 c ll cl b off w wr p rp k S F G d hll hlt hlb hdr hT hfit hbw hBr (by omega) (by omega) (by omega) (pickOf d.what 10) rfl hK hq0.2 hdn f hlk hC1 (fun _ _ o _ _ h => by cases o <;> exact h) ?_
          intros
          rename_i hz
          change _ ∧ _
          refine ⟨?_, by simp [intOf]; omega⟩
          iterate 214 apply Exists.intro
          exact ⟨hz, rfl⟩
        by_cases hC2 : 0 ≤ d.n ∧ d.m < 0
        · refine plays_8C2 c ll cl b off w wr p rp k S F G d hll hlt hlb hdr hT hfit hbw hBr (by omega) (by omega) (by omega) (pickOf d.what 10) rfl hK hq0.2 hdn f hlk hC2 (fun _ _ o _ _ h => by cases o <;> exact h) ?_
          intros
          rename_i hz
          change _ ∧ _
          refine ⟨?_, by simp [intOf]; omega⟩
          iterate 214 apply Exists.intro
          exact ⟨hz, rfl⟩
        by_cases hC3 : 0 ≤ d.n ∧ 0 ≤ d.m ∧ (f.bytes.length : Int) < d.n
        · refine plays_8C3 c ll cl b off w wr p rp k S F G d hll hlt hlb hdr hT hfit hbw hBr (by omega) (by omega) (by omega) (pickOf d.what 10) rfl hK hq0.2 hdn f hlk hC3 (fun _ _ o _ _ h => by cases o <;> exact h) ?_
          intros
          rename_i hz
          change _ ∧ _
          refine ⟨?_, by simp [intOf]; omega⟩
          iterate 214 apply Exists.intro
          exact ⟨hz, rfl⟩
        by_cases hC4 : 0 ≤ d.n ∧ 0 ≤ d.m ∧ d.n ≤ (f.bytes.length : Int) ∧ (f.bytes.length : Int) - d.n < d.m
        · refine plays_8C4 c ll cl b off w wr p rp k S F G d hll hlt hlb hdr hT hfit hbw hBr (by omega) (by omega) (by omega) (pickOf d.what 10) rfl hK hq0.2 hdn f hlk hC4 (fun _ _ o _ _ h => by cases o <;> exact h) ?_
          intros
          rename_i hz
          change _ ∧ _
          refine ⟨?_, by simp [intOf]; omega⟩
          iterate 214 apply Exists.intro
          exact ⟨hz, rfl⟩
        obtain ⟨i, hi⟩ := Int.eq_ofNat_of_zero_le (show 0 ≤ d.n by omega)
        obtain ⟨jn, hj⟩ := Int.eq_ofNat_of_zero_le (show 0 ≤ d.m by omega)
        refine plays_8D c ll cl b off w wr p rp k S F G d hll hlt hlb hdr hT hfit hbw hBr (by omega) (by omega) (by omega) (pickOf d.what 10) rfl hK hq0.2 hdn f hlk i jn hi hj (by omega) _ rfl (fun _ _ o _ _ h => by cases o <;> exact h) ?_
        intros
        rename_i hz
        change _ ∧ _
        refine ⟨?_, by simp [intOf]; omega⟩
        iterate 214 apply Exists.intro
        exact ⟨hz, rfl⟩
    · have hkl : k = ll := by omega
      subst hkl
      go_wp2
      go_ret
      exact ⟨rfl, hbw⟩
end Go.Proofs.Ytiaaadeenbjciaa.Disk
