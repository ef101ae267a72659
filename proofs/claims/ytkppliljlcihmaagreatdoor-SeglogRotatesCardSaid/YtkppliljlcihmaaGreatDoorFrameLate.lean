/- In one text: Contracts of layer 5: Put, Get and Size, and the reference's Frame and Get. Contracts of layer 5's Get, and of the reference's. Contract of the reference's Get of layer 5; and layer 5's Get at whatever bytes. -/
import Derived.Test.YtkppliljlcihmaaGreatDoorFrameMath
import Derived.Test.YtkppliljlcihmaaGreatDoorGI
import Derived.Test.YtkppliljlcihmaaGreatDoorErr
namespace Go.Proofs.YtkppliljlcihmaaGreatDoor.Frame
open Go.Proofs.YtkppliljlcihmaaGreatDoor.Mem Go.Proofs.YtkppliljlcihmaaGreatDoor.Err
open Go.Proofs.YtkppliljlcihmaaGreatDoor.Pack (put num got left shortBy put_length put_bytes put_any refPut_any new_any number_any Rd Rf rf_new u8_info)
open Go.Proofs.YtkppliljlcihmaaGreatDoor.Crc (sumOf sumOf_lt sum_any)
open Go.ChangeShapes Go.WideShapes Go.ChangeAt Go.RowKit
set_option linter.unusedVariables false

theorem size_any (n : Int) (h0 : 0 ≤ n) (h : n ≤ 9000000000) (w : World) :
    Calls Tryz.prog 68 #[.int .i64 n] w fun e w' => e = .returned (.int .i64 (8 + n)) ∧ w = w' := by
  go_enter Tryz.func68, Tryz.ntmps68
  go_wp2
  go_ret
  exact ⟨rfl, rfl⟩
theorem may_yes (n : Int) (h1 : 1 ≤ n) (h2 : n ≤ 20000) (w : World) :
    Calls Tryz.prog 67 #[.int .u64 n] w fun e w' => e = .returned (.bool true) ∧ w = w' := by
  go_enter Tryz.func67, Tryz.ntmps67
  go_wp2
  go_ret
  exact ⟨rfl, rfl⟩
theorem may_no (n : Int) (h0 : 0 ≤ n) (h : n < 1 ∨ 20000 < n) (w : World) :
    Calls Tryz.prog 67 #[.int .u64 n] w fun e w' => e = .returned (.bool false) ∧ w = w' := by
  rcases h with h | h
  · go_enter Tryz.func67, Tryz.ntmps67
    go_wp2
    go_ret
    exact ⟨rfl, rfl⟩
  · have h1 : 1 ≤ n := by omega
    have h2 : decide (n ≤ 20000) = false := by simp; omega
    go_enter Tryz.func67, Tryz.ntmps67
    go_wp2
    go_ret
    exact ⟨rfl, rfl⟩
set_option maxRecDepth 100000 in
set_option maxHeartbeats 1000000 in
theorem put_no (a : Option Addr) (len cap : Nat) (w : World) (hm : len ≤ 1073741824) (h : len < 1 ∨ 20000 < len) :
    Calls Tryz.prog 39 #[.slice a len cap] w fun e w' => e = .returned (.tuple #[.slice none 0 0, errV 13]) ∧ w = w' := by
  go_enter Tryz.func39, Tryz.ntmps39
  go_wp2_with fail
  refine (may_no _ (by omega) (by omega) _).mono ?_
  rintro e w' ⟨rfl, rfl⟩
  go_wp2_with fail
  go_ret2
  exact ⟨rfl, rfl⟩
set_option maxRecDepth 100000 in
set_option maxHeartbeats 2000000 in
theorem put_yes (a : Option Addr) (cap : Nat) (zs : List Int) (w : World) (h : Row w a zs.length zs) (hn : a = none → cap = 0) (h1 : 1 ≤ zs.length) (h2 : zs.length ≤ 20000) :
    Calls Tryz.prog 39 #[.slice a zs.length cap] w fun e w' => ∃ v, e = .returned (.tuple #[v, errV 0]) ∧ w'.ownsRow w.heap.size 5 1 v (zs.length + 8) (cellsOf (frm zs)) ∧ Below w.heap.size w w' := by
  obtain ⟨i0, hi0, hz0, hz1, hz2⟩ := info_parts u8_info
  have HN := Lib.hid hn
  clear hn
  have hs := sumOf_lt 0 zs
  go_enter Tryz.func39, Tryz.ntmps39
  go_wp2_with fail
  refine (may_yes _ (by omega) (by omega) _).mono ?_
  rintro e w' ⟨rfl, rfl⟩
  go_wp2_with fail
  refine (size_any _ (by omega) (by omega) _).mono ?_
  rintro e w' ⟨rfl, rfl⟩
  go_wp2_with (at_make; refine wpList_make_own _ rfl _ _ 58 rfl w.heap.size 5 i0 _ 1 Tryz.underlying58 hi0 hz0 hz1 .i64 .i64 (8 + (zs.length : Int)) (8 + zs.length) rfl rfl (by omega) (by rw [hz2]; omega) (by unfold maxLen; omega) (Nat.le_refl _) ?_; intro w1 ho1 hg1)
  have hb1 : Below w.heap.size w w1 := (Below.refl _ w).grown hg1 (Nat.le_refl _) (fun k hk => by cases hk)
  have hx1 := h.below hb1
  clear hg1
  refine (put_any zs.length (by omega) 4 (by omega) (by omega) _ 0 [] w.heap.size w1 ho1 hb1.size (by omega)).mono ?_
  rintro e w2 ⟨v2, rfl, ho2, hon2⟩
  have hb2 := hb1.trans (hon2.below ho1 hb1.size)
  have hx2 := h.below hb2
  clear hon2 ho1 hx1 hb1
  go_wp2_with fail
  refine (sum_any a _ cap zs w2 hx2 (by omega)).mono ?_
  rintro e w' ⟨rfl, rfl⟩
  go_wp2_with fail
  refine (put_any (sumOf 0 zs) (by omega) 4 (by omega) (by omega) v2 _ _ w.heap.size w2 ho2 hb2.size (by omega)).mono ?_
  rintro e w3 ⟨v3, rfl, ho3, hon3⟩
  have hb3 := hb2.trans (hon3.below ho2 hb2.size)
  have hx3 := h.below hb3
  clear hon3 ho2 hx2 hb2
  go_wp2_with (at_builtin; refine wpList_append_onto rfl _ _ 58 rfl w.heap.size 5 i0 _ 1 1 Tryz.underlying58 hi0 hz0 hz1 hz2 rfl (by omega) v3 _ _ rfl ho3 (.slice a zs.length cap) zs.length (cellsOf zs) rfl (hx3.sees HN.out) (cellsOf_one zs) (by simp only [maxLen]; omega) (by omega) hb3.size ?_; intro v4 w4 ho4 hon4)
  have hb4 := hb3.trans (hon4.below ho3 hb3.size)
  go_ret2
  refine ⟨v4, rfl, ?_, hb4⟩
  have e1 : 0 + 4 + 4 + zs.length = zs.length + 8 := by omega
  rw [e1, ← cellsOf_append] at ho4
  exact ho4
end Go.Proofs.YtkppliljlcihmaaGreatDoor.Frame
namespace Go.Proofs.YtkppliljlcihmaaGreatDoor.Frame
open Go.Proofs.YtkppliljlcihmaaGreatDoor.Mem Go.Proofs.YtkppliljlcihmaaGreatDoor.Err
open Go.Proofs.YtkppliljlcihmaaGreatDoor.Pack (put num got left shortBy put_length put_bytes put_any refPut_any new_any number_any Rd Rf rf_new u8_info)
open Go.Proofs.YtkppliljlcihmaaGreatDoor.Crc (sumOf sumOf_lt sum_any)
open Go.ChangeShapes Go.WideShapes Go.ChangeAt Go.RowKit
set_option linter.unusedVariables false

/- What a slice of bytes that came in is. -/
structure In (w : World) (a : Option Addr) (len cap : Nat) (bs : List Int) : Prop where
  row : Row w a len bs
  fits : len ≤ cap
  small : cap ≤ maxLen
  nil : a = none → cap = 0
theorem In.below {w w' : World} {a : Option Addr} {len cap : Nat} {bs : List Int} (h : In w a len cap bs) (hb : Below w.heap.size w w') : In w' a len cap bs := ⟨h.row.below hb, h.fits, h.small, h.nil⟩

set_option maxRecDepth 100000 in
set_option maxHeartbeats 2000000 in
theorem get_short (a : Option Addr) (len cap : Nat) (w : World) (h8 : len < 8) :
    Calls Tryz.prog 77 #[.slice a len cap] w fun e w' => e = .returned (.tuple #[.slice none 0 0, .int .i64 0, errV 3]) ∧ w = w' := by
  go_enter Tryz.func77, Tryz.ntmps77
  go_wp2_with fail
  go_ret3
  exact ⟨rfl, rfl⟩
set_option maxRecDepth 100000 in
set_option maxHeartbeats 2000000 in
theorem get_long (a : Option Addr) (cap : Nat) (bs : List Int) (w : World) (h : In w a bs.length cap bs) (h8 : 8 ≤ bs.length) (hl : bs.length ≤ 1073741824) :
    Calls Tryz.prog 77 #[.slice a bs.length cap] w fun e w' => ∃ v, e = .returned (.tuple #[v, .int .i64 (many bs : Int), errV (bad bs : Int)]) ∧ w'.ownsRow w.heap.size 5 1 v (body bs).length (cellsOf (body bs)) ∧ Below w.heap.size w w' := by
  obtain ⟨i0, hi0, hz0, hz1, hz2⟩ := info_parts u8_info
  obtain ⟨hr, hlc, hcm, hnil⟩ := h
  obtain ⟨g, off, rfl, hg, _⟩ := hr.2.2 (by omega)
  have hbs := hr.2.1
  have hhl := head_lt hbs
  have htl := told_lt hbs
  have hcm' : (cap : Int) ≤ 9223372036854775807 := by simp only [maxLen] at hcm; omega
  have h8c : 8 ≤ cap := by omega
  have hrow8 : Row w (some ⟨g, off, none⟩) 8 (bs.take 8) := by
    have := Pack.Row.part hr 0 8 (by omega) (some ⟨g, off, none⟩) (fun _ => rfl)
    simpa using this
  clear hnil hcm
  go_enter Tryz.func77, Tryz.ntmps77
  go_wp2_with fail
  refine (new_any (some ⟨g, off, none⟩) 8 cap (bs.take 8) w hrow8 (by simp) (by omega)).mono ?_
  rintro e w1 ⟨p, rfl, hp, D, hrd1, hb1, hDa, hDb⟩
  clear hrow8
  have k1 := number_any p _ false 4 (by omega) (by omega) w1 hrd1
  rw [head_take h8] at k1
  go_wp2_with fail
  refine k1.mono ?_
  rintro e w2 ⟨rfl, hrd2, hb2⟩
  clear k1 hrd1
  have k2 := number_any p _ _ 4 (by omega) (by omega) w2 hrd2
  rw [told_take h8] at k2
  go_wp2_with fail
  refine k2.mono ?_
  rintro e w3 ⟨rfl, hrd3, hb3⟩
  clear k2 hrd2 hrd3
  have hbB : Below w.heap.size w w2 := hb1.trans (hb2.below hb1.size (fun k hk => by omega))
  have hbC : Below w.heap.size w w3 := hbB.trans (hb3.below hbB.size (fun k hk => by omega))
  have hr3 := hr.below hbC
  clear hb1 hb2 hb3 hbB hp hDa hDb
  have hnum : ∀ n : Nat, head bs = n → Hid (head bs = n) := fun n h => Lib.hid h
  obtain ⟨n, hn⟩ : ∃ n, head bs = n := ⟨_, rfl⟩
  obtain ⟨s, hs⟩ : ∃ s, told bs = s := ⟨_, rfl⟩
  rw [hn] at hhl ⊢
  rw [hs] at htl ⊢
  have HN := Lib.hid hn
  have HS := Lib.hid hs
  clear hn hs hnum
  have hnil : w3.ownsRow w.heap.size 5 1 (.slice none 0 0) 0 (cellsOf []) := World.ownsRow_nil _ _ _ _
  by_cases hf : n < 1 ∨ 20000 < n
  · go_wp2_with fail
    refine (may_no _ (by omega) (by omega) _).mono ?_
    rintro e w' ⟨rfl, rfl⟩
    go_wp2_with fail
    go_ret3
    have e1 : bad bs = 2 := bad_form h8 (by rw [HN.out]; exact hf)
    have e2 := many_none (bs := bs) (by omega)
    have e3 := body_none (bs := bs) (by omega)
    rw [e1, e2, e3]
    exact ⟨.slice none 0 0, rfl, hnil, hbC⟩
  · have h1 : 1 ≤ n := by omega
    have h2 : n ≤ 20000 := by omega
    clear hf
    go_wp2_with fail
    refine (may_yes _ (by omega) (by omega) _).mono ?_
    rintro e w' ⟨rfl, rfl⟩
    go_wp2_with fail
    refine (size_any _ (by omega) (by omega) _).mono ?_
    rintro e w' ⟨rfl, rfl⟩
    by_cases ht : bs.length < 8 + n
    · have ht' : decide ((bs.length : Int) < 8 + (n : Int)) = true := by simp; omega
      go_wp2_with fail
      go_ret3
      have e1 : bad bs = 3 := bad_trunc h8 (by rw [HN.out]; exact h1) (by rw [HN.out]; exact h2) (by rw [HN.out]; exact ht)
      have e2 := many_none (bs := bs) (by omega)
      have e3 := body_none (bs := bs) (by omega)
      rw [e1, e2, e3]
      exact ⟨.slice none 0 0, rfl, hnil, hbC⟩
    · have ht' : decide ((bs.length : Int) < 8 + (n : Int)) = false := by simp; omega
      have hin : inner bs = (bs.drop 8).take n := by unfold inner; rw [HN.out]
      have hlen : (inner bs).length = n := by rw [inner_length (by rw [HN.out]; omega), HN.out]
      have hby : Bytes (inner bs) := inner_bytes hbs
      have hri : Row w3 (some ⟨g, off + 8, none⟩) n (inner bs) := by rw [hin]; exact Pack.Row.part hr3 8 n (by omega) _ (fun _ => rfl)
      have hsee : ∀ y, y = Value.slice (some ⟨g, off + 8, none⟩) n (cap - 8) → Sees w3 1 y n (cellsOf (inner bs)) := fun y h => h ▸ hri.sees (by simp)
      have u1 : (8 : Int) + (n : Int) ≤ (cap : Int) := by omega
      have u2 : (n : Int) + 8 ≤ (cap : Int) := by omega
      have hc8 : ¬ cap = 8 := by omega
      obtain ⟨Z, hZ⟩ : ∃ Z, inner bs = Z := ⟨_, rfl⟩
      rw [hZ] at hlen hby hri hsee
      have HZ := Lib.hid hZ
      clear hZ hin hr hr3
      have hown := World.ownsRow_nil w3 w3.heap.size 5 1
      have HB := Lib.hid hbC
      clear hnil
      have hsl := sumOf_lt 0 Z
      go_wp2_with (at_builtin; refine wpList_append_onto rfl _ _ 58 rfl w3.heap.size 5 i0 _ 1 1 Tryz.underlying58 hi0 hz0 hz1 hz2 rfl (by omega) (.slice none 0 0) 0 [] rfl hown _ n (cellsOf Z) rfl (hsee _ (by simp [Act.eval])) (cellsOf_one _) (by unfold maxLen; omega) (by omega) (Nat.le_refl _) ?_; intro v4 w4 ho4 hon4)
      have hb4 := hon4.below hown (Nat.le_refl _)
      have hb4' := HB.out.trans (hb4.mono HB.out.size)
      rw [Nat.zero_add, List.nil_append] at ho4
      have ho4' : w4.ownsRow w.heap.size 5 1 v4 n (cellsOf Z) := ⟨ho4.1, by
        rcases ho4.2 with h | ⟨g', c', cur', q1, q2, q3⟩
        · exact .inl h
        · exact .inr ⟨g', c', cur', q1, Nat.le_trans HB.out.size q2, q3⟩⟩
      obtain ⟨a4, c4, rfl, hr4, hl4, hD4⟩ := own_shape ho4 hby
      have HL := Lib.hid hlen
      clear hon4 hown hsee hri hb4 ho4 hl4 hlen
      refine (sum_any a4 n c4 Z w4 hr4 (by omega)).mono ?_
      rintro e w' ⟨rfl, rfl⟩
      by_cases hq : sumOf 0 Z = s
      · have e1 : bad bs = 0 := bad_none (by rw [HN.out]; exact h1) (by rw [HN.out]; exact h2) (by rw [HN.out]; omega) (by rw [HZ.out, HS.out]; exact hq)
        have e2 : many bs = 8 + n := by unfold many; rw [if_pos e1, HN.out]
        have e3 : body bs = Z := by unfold body; rw [if_pos e1, HZ.out]
        have E1 := Lib.hid e1
        have E2 := Lib.hid e2
        have E3 := Lib.hid e3
        have hq' : (((sumOf 0 Z : Nat) : Int) != (s : Int)) = false := by simp [hq]
        clear e1 e2 e3 hq
        go_wp2_with fail
        go_ret3
        rw [E1.out, E2.out, E3.out]
        rw [HL.out]
        exact ⟨_, rfl, ho4', hb4'⟩
      · have e1 : bad bs = 4 := bad_sum (by rw [HN.out]; exact h1) (by rw [HN.out]; exact h2) (by rw [HN.out]; omega) (by rw [HZ.out, HS.out]; exact hq)
        have hq' : (((sumOf 0 Z : Nat) : Int) != (s : Int)) = true := by simp; omega
        have e2 := many_none (bs := bs) (by omega)
        have e3 := body_none (bs := bs) (by omega)
        have E1 := Lib.hid e1
        have E2 := Lib.hid e2
        have E3 := Lib.hid e3
        clear e1 e2 e3 hq
        go_wp2_with fail
        go_ret3
        rw [E1.out, E2.out, E3.out]
        exact ⟨.slice none 0 0, rfl, World.ownsRow_nil _ _ _ _, hb4'⟩
end Go.Proofs.YtkppliljlcihmaaGreatDoor.Frame
namespace Go.Proofs.YtkppliljlcihmaaGreatDoor.Frame
open Go.Proofs.YtkppliljlcihmaaGreatDoor.Mem Go.Proofs.YtkppliljlcihmaaGreatDoor.Err
open Go.Proofs.YtkppliljlcihmaaGreatDoor.Pack (put num got left shortBy put_length put_bytes put_any refPut_any new_any number_any Rd Rf rf_new u8_info)
open Go.Proofs.YtkppliljlcihmaaGreatDoor.Crc (sumOf sumOf_lt sum_any)
open Go.ChangeShapes Go.WideShapes Go.ChangeAt Go.RowKit
set_option linter.unusedVariables false

theorem get_any (a : Option Addr) (cap : Nat) (bs : List Int) (w : World) (h : In w a bs.length cap bs) (hl : bs.length ≤ 1073741824) :
    Calls Tryz.prog 77 #[.slice a bs.length cap] w fun e w' => ∃ v, e = .returned (.tuple #[v, .int .i64 (many bs : Int), errV (bad bs : Int)]) ∧ w'.ownsRow w.heap.size 5 1 v (body bs).length (cellsOf (body bs)) ∧ Below w.heap.size w w' := by
  by_cases h8 : bs.length < 8
  · have e1 : bad bs = 3 := bad_short h8
    have e2 := many_none (bs := bs) (by omega)
    have e3 := body_none (bs := bs) (by omega)
    rw [e1, e2, e3]
    refine (get_short a bs.length cap w h8).mono ?_
    rintro e w' ⟨rfl, rfl⟩
    exact ⟨.slice none 0 0, rfl, World.ownsRow_nil _ _ _ _, Below.refl _ _⟩
  · exact get_long a cap bs w h (by omega) hl
theorem short_two (bs : List Int) : shortBy (left bs 4) 4 (shortBy bs 4 false) = decide (bs.length < 8) := by
  by_cases h4 : bs.length < 4
  · have e1 : shortBy bs 4 false = true := if_neg (by omega)
    have e2 : left bs 4 = [] := if_neg (by omega)
    rw [e1, e2]
    have : decide (bs.length < 8) = true := by simp; omega
    rw [this]; rfl
  · have e1 : shortBy bs 4 false = false := if_pos (by omega)
    have e2 := left_length (bs := bs) (k := 4) (by omega)
    rw [e1]
    unfold shortBy
    rw [e2]
    by_cases h8 : bs.length < 8
    · rw [if_neg (by omega)]; simp; omega
    · rw [if_pos (by omega)]; simp; omega
theorem in_nil (w : World) : In w none 0 0 [] := ⟨Row.nil, Nat.le_refl _, Nat.zero_le _, fun _ => rfl⟩
/- What the reference's Get answers. -/
def RefGets (w : World) (bs : List Int) (e : Ending) (w' : World) : Prop :=
  ∃ a' c', e = .returned (.tuple #[.slice a' (body bs).length c', .int .i64 (many bs : Int), .int .i64 (bad bs : Int)]) ∧ In w' a' (body bs).length c' (body bs) ∧ Below w.heap.size w w'
end Go.Proofs.YtkppliljlcihmaaGreatDoor.Frame
