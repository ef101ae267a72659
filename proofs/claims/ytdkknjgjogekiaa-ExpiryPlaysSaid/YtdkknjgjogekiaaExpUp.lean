/- Contracts of the library's up and down over the program's heap. -/
import Derived.Test.YtdkknjgjogekiaaExpPush
namespace Go.Proofs.Ytdkknjgjogekiaa.Exp
open Go.Proofs.Ytdkknjgjogekiaa.Mem
open Go.ChangeShapes Go.WideShapes Go.ChangeAt Go.RowKit
set_option linter.unusedVariables false
set_option linter.unusedSimpArgs false
theorem swap_comm (l : List It) {i j : Nat} (h : i ≠ j) : swap l i j = swap l j i := by
  unfold swap
  exact List.set_comm _ _ h
section
variable {w : World} {B p : Nat} {v : Value} {l : List It}
/- The methods at whatever world the heap lies in. -/
theorem HAt.m1 (h : HAt w B p v l) : Sem.run Try.prog (method (Try.prog.types.size + 100) 49 (.pointer (some ⟨p, 0, none⟩)) "Len") w = .ok (37, v) w := m_len (h.blk.cell 0)
theorem HAt.m2 (h : HAt w B p v l) : Sem.run Try.prog (method (Try.prog.types.size + 100) 49 (.pointer (some ⟨p, 0, none⟩)) "Less") w = .ok (38, v) w := m_less (h.blk.cell 0)
theorem HAt.m3 (h : HAt w B p v l) : Sem.run Try.prog (method (Try.prog.types.size + 100) 49 (.pointer (some ⟨p, 0, none⟩)) "Swap") w = .ok (39, v) w := m_swap (h.blk.cell 0)
theorem HAt.len_ (h : HAt w B p v l) : Calls Try.prog 37 #[v] w fun e w' => e = .returned (.int .i64 (l.length : Int)) ∧ w' = w := by
  obtain ⟨a, c, rfl⟩ := h.shape
  exact len_at w a _ c
theorem HAt.drewN (h : HAt w B p v l) (q : Nat) : HAt (w.drewN q) B p v l := h.but ((But.refl (fun _ => False) w).drewN q) (fun h => h) (fun _ _ h => h)
theorem HAt.less_ (h : HAt w B p v l) {i j : Nat} (hi : i < l.length) (hj : j < l.length) :
    Calls Try.prog 38 #[v, .int .i64 (i : Int), .int .i64 (j : Int)] w fun e w' => e = .returned (.bool (Exp.lt (look l i) (look l j))) ∧ HAt w' B p v l ∧ But (Foot p v) w w' := by
  obtain ⟨g, cap, rest, rfl, hc1, hc2, hBg, hrest, hrow⟩ := h.row (by omega)
  refine (less_at hrow hi hj h.few cap).mono ?_
  rintro e w' ⟨rfl, q, rfl⟩
  exact ⟨rfl, h.drewN q, (But.refl _ w).drewN q⟩
theorem HAt.swap_ (h : HAt w B p v l) {i j : Nat} (hi : i < l.length) (hj : j < l.length) :
    Calls Try.prog 39 #[v, .int .i64 (i : Int), .int .i64 (j : Int)] w fun e w' => e = .returned (.tuple #[]) ∧ HAt w' B p v (swap l i j) ∧ But (Foot p v) w w' := by
  have hlt := h.lt
  obtain ⟨g, cap, rest, rfl, hc1, hc2, hBg, hrest, hrow⟩ := h.row (by omega)
  refine (swap_at hrow hi hj h.few cap).mono ?_
  rintro e w' ⟨rfl, hrow2, hb⟩
  have hl := swap_length l i j
  refine ⟨rfl, ⟨h.blk.but hb (fun e => (hlt.2 g rfl).2.2 e.symm), ?_, h.base, by rw [hl]; exact h.few⟩, hb.mono (fun k _ e => .inr (by rw [e]; rfl))⟩
  have := own_of_row (l := swap l i j) hrow2 hBg (by rw [hl]; exact hc1) hc2 (by rw [hl]; exact hrest)
  rw [hl] at this
  rw [hl]
  exact this
def Upping (w : World) (B p : Nat) (v : Value) (R : List It) (n j : Nat) (wr : World) : Prop :=
  ∃ (l' : List It) (f : Nat), l'.length = n ∧ j < n ∧ j < f ∧ up f l' j = R ∧ HAt wr B p v l' ∧ But (Foot p v) w wr
set_option maxRecDepth 100000 in
set_option maxHeartbeats 1000000 in
theorem hup_any (h : HAt w B p v l) {j : Nat} (hj : j < l.length) :
    Calls Try.prog 19 #[.iface 49 (.pointer (some ⟨p, 0, none⟩)), .int .i64 (j : Int)] w fun e w' => e = .returned (.tuple #[]) ∧ HAt w' B p v (up (j + 1) l j) ∧ But (Foot p v) w w' := by
  have hf := h.few
  obtain ⟨R, hR⟩ : ∃ R, R = up (j + 1) l j := ⟨_, rfl⟩
  rw [← hR]
  obtain ⟨n, hn⟩ : ∃ n, n = l.length := ⟨_, rfl⟩
  have HS := Lib.hid (show Upping w B p v R n j w from ⟨l, j + 1, hn.symm, by omega, by omega, hR.symm, h, But.refl _ w⟩)
  rw [← hn] at hf
  clear h hR hn hj
  go_enter Try.func19, Try.ntmps19
  go_wp2_with fail
  go_loopw [1] (fun x wr => ∃ k : Nat, x = .int .i64 (k : Int) ∧ Upping w B p v R n k wr) (fun x _ => (intOf x).toNat)
  case atStart => exact ⟨j, rfl, HS.out⟩
  case round =>
    obtain ⟨k, rfl, l', f, hl, hk, hkf, hup, hA, hB⟩ := hrel
    have mL := hA.m2
    simp at mL
    have HA := Lib.hid hA
    have HB := Lib.hid hB
    have HU := Lib.hid hup
    have HLN := Lib.hid hl
    by_cases h0 : k = 0
    · subst h0
      clear hA hB hup hl
      go_wp2_with fail
      go_end0
      have : up f l' 0 = l' := by
        cases f with
        | zero => rfl
        | succ f => unfold up; rw [if_neg (by omega)]
      rw [← HU.out, this]
      exact ⟨rfl, HA.out, HB.out⟩
    · obtain ⟨P, hP⟩ : ∃ P, P = par k := ⟨_, rfl⟩
      have hpk := par_lt (i := k) (by omega)
      rw [← hP] at hpk
      have hq : ((k : Int) - 1).tdiv 2 = (P : Int) := by rw [hP, Int.tdiv_eq_ediv_of_nonneg (by omega)]; unfold par; omega
      have hne : ((P : Int) == (k : Int)) = false := beq_eq_false_iff_ne.2 (by omega)
      have HC := Lib.hid (hA.less_ (i := k) (j := P) (by omega) (by omega))
      obtain ⟨f', rfl⟩ : ∃ f', f = f' + 1 := ⟨f - 1, by omega⟩
      have HP := Lib.hid hP
      clear hA hB hup hl hP
      go_wp2_with fail
      refine HC.out.mono ?_
      rintro e w1 ⟨rfl, hA1, hB1⟩
      have HA1 := Lib.hid hA1
      have HB1 := Lib.hid (HB.out.trans' hB1)
      have mS := hA1.m3
      simp at mS
      have HSW := Lib.hid (hA1.swap_ (i := P) (j := k) (by rw [HLN.out]; omega) (by rw [HLN.out]; omega))
      obtain ⟨b, hb⟩ : ∃ b, b = Exp.lt (look l' k) (look l' P) := ⟨_, rfl⟩
      rw [← hb]
      have HBL := Lib.hid hb
      clear hA1 hB1 hb mL HC HA HB
      cases b with
      | false =>
        go_wp2_with fail
        go_end0
        refine ⟨rfl, ?_, HB1.out⟩
        have hu := HU.out
        unfold up at hu
        rw [if_neg (fun hc => by rw [← HP.out, ← HBL.out] at hc; cases hc.2)] at hu
        rw [← hu]
        exact HA1.out
      | true =>
        go_wp2_with fail
        refine HSW.out.mono ?_
        rintro e w2 ⟨rfl, hA2, hB2⟩
        have HST := Lib.hid (show Upping w B p v R n P w2 from by
          refine ⟨swap l' P k, f', by rw [swap_length]; exact HLN.out, by omega, by omega, ?_, hA2, HB1.out.trans' hB2⟩
          have hu := HU.out
          unfold up at hu
          rw [← HP.out, if_pos ⟨by omega, HBL.out.symm⟩, swap_comm _ (by omega)] at hu
          exact hu)
        clear hA2 hB2 mS HSW
        go_wp2_with fail
        go_roundw
        case rel => exact ⟨P, rfl, HST.out⟩
        case measure => simp [intOf]; omega
/- down: among the first n places. -/
def Downing (w : World) (B p : Nat) (v : Value) (R tail : List It) (n m j : Nat) (wr : World) : Prop :=
  ∃ (l' : List It) (f : Nat), l'.length = m ∧ j ≤ n ∧ m < f + j + 1 ∧ down f l' j = R ∧ HAt wr B p v (l' ++ tail) ∧ But (Foot p v) w wr
def Told (e : Ending) : Prop := ∃ b, e = .returned (.bool b)
theorem look_app {a b : List It} {i : Nat} (h : i < a.length) : look (a ++ b) i = look a i := by simp [look, List.getD, List.getElem?_append_left h]
theorem swap_app {a b : List It} {i j : Nat} (hi : i < a.length) (hj : j < a.length) : swap (a ++ b) i j = swap a i j ++ b := by
  unfold swap
  rw [look_app hi, look_app hj, List.set_append_left _ _ hi, List.set_append_left _ _ (by rw [List.length_set]; exact hj)]
theorem least_eq (l : List It) (j : Nat) : least l j = if 2 * j + 2 < l.length ∧ Exp.lt (look l (2 * j + 2)) (look l (2 * j + 1)) = true then 2 * j + 2 else 2 * j + 1 := rfl
set_option maxRecDepth 100000 in
set_option maxHeartbeats 1000000 in
theorem hdown_any {l tail : List It} (h : HAt w B p v (l ++ tail)) :
    Calls Try.prog 20 #[.iface 49 (.pointer (some ⟨p, 0, none⟩)), .int .i64 0, .int .i64 (l.length : Int)] w fun e w' => Told e ∧ HAt w' B p v (down (l.length + 1) l 0 ++ tail) ∧ But (Foot p v) w w' := by
  have hf := h.few
  rw [List.length_append] at hf
  obtain ⟨R, hR⟩ : ∃ R, R = down (l.length + 1) l 0 := ⟨_, rfl⟩
  rw [← hR]
  obtain ⟨n, hn⟩ : ∃ n, n = l.length := ⟨_, rfl⟩
  have HS := Lib.hid (show Downing w B p v R tail n n 0 w from ⟨l, l.length + 1, hn.symm, by omega, by omega, hR.symm, h, But.refl _ w⟩)
  rw [← hn] at hf ⊢
  clear h hR hn
  go_enter Try.func20, Try.ntmps20
  go_wp2_with fail
  go_loopw [7] (fun x wr => ∃ k : Nat, x = .int .i64 (k : Int) ∧ Downing w B p v R tail n n k wr) (fun x _ => n - (intOf x).toNat)
  case atStart => exact ⟨0, rfl, HS.out⟩
  case round =>
    obtain ⟨k, rfl, l', f, hl, hk, hkf, hup, hA, hB⟩ := hrel
    have mL := hA.m2
    simp at mL
    have HA := Lib.hid hA
    have HB := Lib.hid hB
    have HU := Lib.hid hup
    have HLN := Lib.hid hl
    by_cases h0 : n ≤ 2 * k + 1
    · clear hA hB hup hl
      go_wp2_with fail
      go_ret
      refine ⟨⟨_, rfl⟩, ?_, HB.out⟩
      have : down f l' k = l' := by
        cases f with
        | zero => rfl
        | succ f => unfold down; rw [if_neg (by rw [HLN.out]; omega)]
      rw [← HU.out, this]
      exact HA.out
    · obtain ⟨f', rfl⟩ : ∃ f', f = f' + 1 := ⟨f - 1, by omega⟩
      have HB1 := HB
      by_cases h2 : 2 * k + 2 < n
      · have HL1 := Lib.hid (hA.less_ (i := 2 * k + 2) (j := 2 * k + 1) (by rw [List.length_append, HLN.out]; omega) (by rw [List.length_append, HLN.out]; omega))
        rw [look_app (by rw [HLN.out]; omega), look_app (by rw [HLN.out]; omega)] at HL1
        have z1 : ((2 * k + 1 : Nat) : Int) = 2 * (k : Int) + 1 := by omega
        have z2 : ((2 * k + 2 : Nat) : Int) = 2 * (k : Int) + 1 + 1 := by omega
        rw [z1, z2] at HL1
        clear z1 z2
        obtain ⟨b, hb⟩ : ∃ b, b = Exp.lt (look l' (2 * k + 2)) (look l' (2 * k + 1)) := ⟨_, rfl⟩
        rw [← hb] at HL1
        have hl2 : 2 * (k : Int) + 1 + 1 < (n : Int) := by omega
        have hle : least l' k = if b = true then 2 * k + 2 else 2 * k + 1 := by
          rw [least_eq, ← hb, HLN.out]
          simp [h2]
        have HLE := Lib.hid hle
        clear hA hB hup hl hb HB hle
        go_wp2_with fail
        refine HL1.out.mono ?_
        rintro e w1 ⟨rfl, hA1, hB1⟩
        have HB1 := Lib.hid (HB1.out.trans' hB1)
        clear hB1 mL HL1 HA
        cases b with
        | false =>
          have hJ : least l' k = 2 * k + 1 := HLE.out
          have HL2 := Lib.hid (hA1.less_ (i := 2 * k + 1) (j := k) (by rw [List.length_append, HLN.out]; omega) (by rw [List.length_append, HLN.out]; omega))
          rw [look_app (by rw [HLN.out]; omega), look_app (by rw [HLN.out]; omega)] at HL2
          have mL2 := hA1.m2
          simp at mL2
          obtain ⟨d, hd⟩ : ∃ d, d = Exp.lt (look l' (2 * k + 1)) (look l' k) := ⟨_, rfl⟩
          rw [← hd] at HL2
          have HDD := Lib.hid hd
          have HJ := Lib.hid hJ
          have z1 : ((2 * k + 1 : Nat) : Int) = 2 * (k : Int) + 1 := by omega
          have z2 : ((2 * k + 2 : Nat) : Int) = 2 * (k : Int) + 1 + 1 := by omega
          rw [z1] at HL2
          have HZ := Lib.hid z1
          clear z1 z2
          clear hA1 hd hJ
          go_wp2_with fail
          refine HL2.out.mono ?_
          rintro e w2 ⟨rfl, hA2, hB2⟩
          have HB2 := Lib.hid (HB1.out.trans' hB2)
          have HA2 := Lib.hid hA2
          have mS := hA2.m3
          simp at mS
          have HSW := Lib.hid (hA2.swap_ (i := k) (j := 2 * k + 1) (by rw [List.length_append, HLN.out]; omega) (by rw [List.length_append, HLN.out]; omega))
          rw [swap_app (by rw [HLN.out]; omega) (by rw [HLN.out]; omega)] at HSW
          rw [HZ.out] at HSW
          clear hA2 hB2 HL2 mL2 HB1
          cases d with
          | false =>
            go_wp2_with fail
            go_ret
            refine ⟨⟨_, rfl⟩, ?_, HB2.out⟩
            have hu := HU.out
            unfold down at hu
            rw [if_pos (by rw [HLN.out]; omega), if_neg (fun hc => by rw [HJ.out, ← HDD.out] at hc; cases hc)] at hu
            rw [← hu]
            exact HA2.out
          | true =>
            go_wp2_with fail
            refine HSW.out.mono ?_
            rintro e w3 ⟨rfl, hA3, hB3⟩
            have HST := Lib.hid (show Downing w B p v R tail n n (2 * k + 1) w3 from by
              refine ⟨swap l' k (2 * k + 1), f', by rw [swap_length]; exact HLN.out, by omega, by omega, ?_, hA3, HB2.out.trans' hB3⟩
              have hu := HU.out
              unfold down at hu
              rw [if_pos (by rw [HLN.out]; omega), HJ.out, if_pos HDD.out.symm] at hu
              exact hu)
            clear hA3 hB3 mS HSW
            go_wp2_with fail
            go_roundw
            case rel => exact ⟨2 * k + 1, by go_num, HST.out⟩
            case measure => simp [intOf]; omega
        | true =>
          have hJ : least l' k = 2 * k + 2 := HLE.out
          have HL2 := Lib.hid (hA1.less_ (i := 2 * k + 2) (j := k) (by rw [List.length_append, HLN.out]; omega) (by rw [List.length_append, HLN.out]; omega))
          rw [look_app (by rw [HLN.out]; omega), look_app (by rw [HLN.out]; omega)] at HL2
          have mL2 := hA1.m2
          simp at mL2
          obtain ⟨d, hd⟩ : ∃ d, d = Exp.lt (look l' (2 * k + 2)) (look l' k) := ⟨_, rfl⟩
          rw [← hd] at HL2
          have HDD := Lib.hid hd
          have HJ := Lib.hid hJ
          have z1 : ((2 * k + 1 : Nat) : Int) = 2 * (k : Int) + 1 := by omega
          have z2 : ((2 * k + 2 : Nat) : Int) = 2 * (k : Int) + 1 + 1 := by omega
          rw [z2] at HL2
          have HZ := Lib.hid z2
          clear z1 z2
          clear hA1 hd hJ
          go_wp2_with fail
          refine HL2.out.mono ?_
          rintro e w2 ⟨rfl, hA2, hB2⟩
          have HB2 := Lib.hid (HB1.out.trans' hB2)
          have HA2 := Lib.hid hA2
          have mS := hA2.m3
          simp at mS
          have HSW := Lib.hid (hA2.swap_ (i := k) (j := 2 * k + 2) (by rw [List.length_append, HLN.out]; omega) (by rw [List.length_append, HLN.out]; omega))
          rw [swap_app (by rw [HLN.out]; omega) (by rw [HLN.out]; omega)] at HSW
          rw [HZ.out] at HSW
          clear hA2 hB2 HL2 mL2 HB1
          cases d with
          | false =>
            go_wp2_with fail
            go_ret
            refine ⟨⟨_, rfl⟩, ?_, HB2.out⟩
            have hu := HU.out
            unfold down at hu
            rw [if_pos (by rw [HLN.out]; omega), if_neg (fun hc => by rw [HJ.out, ← HDD.out] at hc; cases hc)] at hu
            rw [← hu]
            exact HA2.out
          | true =>
            go_wp2_with fail
            refine HSW.out.mono ?_
            rintro e w3 ⟨rfl, hA3, hB3⟩
            have HST := Lib.hid (show Downing w B p v R tail n n (2 * k + 2) w3 from by
              refine ⟨swap l' k (2 * k + 2), f', by rw [swap_length]; exact HLN.out, by omega, by omega, ?_, hA3, HB2.out.trans' hB3⟩
              have hu := HU.out
              unfold down at hu
              rw [if_pos (by rw [HLN.out]; omega), HJ.out, if_pos HDD.out.symm] at hu
              exact hu)
            clear hA3 hB3 mS HSW
            go_wp2_with fail
            go_roundw
            case rel => exact ⟨2 * k + 2, by go_num, HST.out⟩
            case measure => simp [intOf]; omega
      · have hA1 := hA
        have hJ : least l' k = 2 * k + 1 := by rw [least_eq, if_neg (fun hc => h2 (by rw [← HLN.out]; exact hc.1))]
        have hl2 : ¬ (2 * (k : Int) + 1 + 1 < (n : Int)) := by omega
        clear hA hB hup hl mL HA HB
        have HL2 := Lib.hid (hA1.less_ (i := 2 * k + 1) (j := k) (by rw [List.length_append, HLN.out]; omega) (by rw [List.length_append, HLN.out]; omega))
        rw [look_app (by rw [HLN.out]; omega), look_app (by rw [HLN.out]; omega)] at HL2
        have mL2 := hA1.m2
        simp at mL2
        obtain ⟨d, hd⟩ : ∃ d, d = Exp.lt (look l' (2 * k + 1)) (look l' k) := ⟨_, rfl⟩
        rw [← hd] at HL2
        have HDD := Lib.hid hd
        have HJ := Lib.hid hJ
        have z1 : ((2 * k + 1 : Nat) : Int) = 2 * (k : Int) + 1 := by omega
        have z2 : ((2 * k + 2 : Nat) : Int) = 2 * (k : Int) + 1 + 1 := by omega
        rw [z1] at HL2
        have HZ := Lib.hid z1
        clear z1 z2
        clear hA1 hd hJ
        go_wp2_with fail
        refine HL2.out.mono ?_
        rintro e w2 ⟨rfl, hA2, hB2⟩
        have HB2 := Lib.hid (HB1.out.trans' hB2)
        have HA2 := Lib.hid hA2
        have mS := hA2.m3
        simp at mS
        have HSW := Lib.hid (hA2.swap_ (i := k) (j := 2 * k + 1) (by rw [List.length_append, HLN.out]; omega) (by rw [List.length_append, HLN.out]; omega))
        rw [swap_app (by rw [HLN.out]; omega) (by rw [HLN.out]; omega)] at HSW
        rw [HZ.out] at HSW
        clear hA2 hB2 HL2 mL2 HB1
        cases d with
        | false =>
          go_wp2_with fail
          go_ret
          refine ⟨⟨_, rfl⟩, ?_, HB2.out⟩
          have hu := HU.out
          unfold down at hu
          rw [if_pos (by rw [HLN.out]; omega), if_neg (fun hc => by rw [HJ.out, ← HDD.out] at hc; cases hc)] at hu
          rw [← hu]
          exact HA2.out
        | true =>
          go_wp2_with fail
          refine HSW.out.mono ?_
          rintro e w3 ⟨rfl, hA3, hB3⟩
          have HST := Lib.hid (show Downing w B p v R tail n n (2 * k + 1) w3 from by
            refine ⟨swap l' k (2 * k + 1), f', by rw [swap_length]; exact HLN.out, by omega, by omega, ?_, hA3, HB2.out.trans' hB3⟩
            have hu := HU.out
            unfold down at hu
            rw [if_pos (by rw [HLN.out]; omega), HJ.out, if_pos HDD.out.symm] at hu
            exact hu)
          clear hA3 hB3 mS HSW
          go_wp2_with fail
          go_roundw
          case rel => exact ⟨2 * k + 1, by go_num, HST.out⟩
          case measure => simp [intOf]; omega
end
end Go.Proofs.Ytdkknjgjogekiaa.Exp
