/- Contracts of layer 5's Get, and of the reference's. -/
import Derived.Test.YtiaaadeenbjciaaFrameWalks
namespace Go.Proofs.Ytiaaadeenbjciaa.Frame
open Go.Proofs.Ytiaaadeenbjciaa.Mem Go.Proofs.Ytiaaadeenbjciaa.Err
open Go.Proofs.Ytiaaadeenbjciaa.Pack (put num got left shortBy put_length put_bytes put_any refPut_any new_any number_any Rd Rf refNumber_any rf_new u8_info)
open Go.Proofs.Ytiaaadeenbjciaa.Crc (sumOf sumOf_lt sum_any refSum_any)
open Go.ChangeShapes Go.WideShapes Go.ChangeAt Go.RowKit
set_option linter.unusedVariables false

/- What a slice of bytes that came in is. -/
structure In (w : World) (a : Option Addr) (len cap : Nat) (bs : List Int) : Prop where
  row : Row w a len bs
  fits : len ≤ cap
  small : cap ≤ maxLen
  nil : a = none → cap = 0
theorem In.below {w w' : World} {a : Option Addr} {len cap : Nat} {bs : List Int} (h : In w a len cap bs) (hb : Below w.heap.size w w') : In w' a len cap bs := ⟨h.row.below hb, h.fits, h.small, h.nil⟩

set_option maxRecDepth 100000 in
set_option maxHeartbeats 2000000 in
theorem get_short (a : Option Addr) (len cap : Nat) (w : World) (h8 : len < 8) :
    Calls Try.prog 28 #[.slice a len cap] w fun e w' => e = .returned (.tuple #[.slice none 0 0, .int .i64 0, errV 3]) ∧ w = w' := by
  go_enter Try.func28, Try.ntmps28
  go_wp2_with fail
  go_ret3
  exact ⟨rfl, rfl⟩
set_option maxRecDepth 100000 in
set_option maxHeartbeats 2000000 in
theorem get_long (a : Option Addr) (cap : Nat) (bs : List Int) (w : World) (h : In w a bs.length cap bs) (h8 : 8 ≤ bs.length) (hl : bs.length ≤ 1073741824) :
    Calls Try.prog 28 #[.slice a bs.length cap] w fun e w' => ∃ v, e = .returned (.tuple #[v, .int .i64 (many bs : Int), errV (bad bs : Int)]) ∧ w'.ownsRow w.heap.size 5 1 v (body bs).length (cellsOf (body bs)) ∧ Below w.heap.size w w' := by
  obtain ⟨i0, hi0, hz0, hz1, hz2⟩ := info_parts u8_info
  obtain ⟨hr, hlc, hcm, hnil⟩ := h
  obtain ⟨g, off, rfl, hg, _⟩ := hr.2.2 (by omega)
  have hbs := hr.2.1
  have hhl := head_lt hbs
  have htl := told_lt hbs
  have hcm' : (cap : Int) ≤ 9223372036854775807 := by simp only [maxLen] at hcm; omega
  have h8c : 8 ≤ cap := by omega
  have hrow8 : Row w (some ⟨g, off, none⟩) 8 (bs.take 8) := by
    have := Pack.Row.part hr 0 8 (by omega) (some ⟨g, off, none⟩) (fun _ => rfl)
    simpa using this
  clear hnil hcm
  go_enter Try.func28, Try.ntmps28
  go_wp2_with fail
  refine (new_any (some ⟨g, off, none⟩) 8 cap (bs.take 8) w hrow8 (by simp) (by omega)).mono ?_
  rintro e w1 ⟨p, rfl, hp, D, hrd1, hb1, hDa, hDb⟩
  clear hrow8
  have k1 := number_any p _ false 4 (by omega) (by omega) w1 hrd1
  rw [head_take h8] at k1
  go_wp2_with fail
  refine k1.mono ?_
  rintro e w2 ⟨rfl, hrd2, hb2⟩
  clear k1 hrd1
  have k2 := number_any p _ _ 4 (by omega) (by omega) w2 hrd2
  rw [told_take h8] at k2
  go_wp2_with fail
  refine k2.mono ?_
  rintro e w3 ⟨rfl, hrd3, hb3⟩
  clear k2 hrd2 hrd3
  have hbB : Below w.heap.size w w2 := hb1.trans (hb2.below hb1.size (fun k hk => by omega))
  have hbC : Below w.heap.size w w3 := hbB.trans (hb3.below hbB.size (fun k hk => by omega))
  have hr3 := hr.below hbC
  clear hb1 hb2 hb3 hbB hp hDa hDb
  have hnum : ∀ n : Nat, head bs = n → Hid (head bs = n) := fun n h => Lib.hid h
  obtain ⟨n, hn⟩ : ∃ n, head bs = n := ⟨_, rfl⟩
  obtain ⟨s, hs⟩ : ∃ s, told bs = s := ⟨_, rfl⟩
  rw [hn] at hhl ⊢
  rw [hs] at htl ⊢
  have HN := Lib.hid hn
  have HS := Lib.hid hs
  clear hn hs hnum
  have hnil : w3.ownsRow w.heap.size 5 1 (.slice none 0 0) 0 (cellsOf []) := World.ownsRow_nil _ _ _ _
  by_cases hf : n < 1 ∨ 20000 < n
  · go_wp2_with fail
    refine (may_no _ (by omega) (by omega) _).mono ?_
    rintro e w' ⟨rfl, rfl⟩
    go_wp2_with fail
    go_ret3
    have e1 : bad bs = 2 := bad_form h8 (by rw [HN.out]; exact hf)
    have e2 := many_none (bs := bs) (by omega)
    have e3 := body_none (bs := bs) (by omega)
    rw [e1, e2, e3]
    exact ⟨.slice none 0 0, rfl, hnil, hbC⟩
  · have h1 : 1 ≤ n := by omega
    have h2 : n ≤ 20000 := by omega
    clear hf
    go_wp2_with fail
    refine (may_yes _ (by omega) (by omega) _).mono ?_
    rintro e w' ⟨rfl, rfl⟩
    go_wp2_with fail
    refine (size_any _ (by omega) (by omega) _).mono ?_
    rintro e w' ⟨rfl, rfl⟩
    by_cases ht : bs.length < 8 + n
    · have ht' : decide ((bs.length : Int) < 8 + (n : Int)) = true := by simp; omega
      go_wp2_with fail
      go_ret3
      have e1 : bad bs = 3 := bad_trunc h8 (by rw [HN.out]; exact h1) (by rw [HN.out]; exact h2) (by rw [HN.out]; exact ht)
      have e2 := many_none (bs := bs) (by omega)
      have e3 := body_none (bs := bs) (by omega)
      rw [e1, e2, e3]
      exact ⟨.slice none 0 0, rfl, hnil, hbC⟩
    · have ht' : decide ((bs.length : Int) < 8 + (n : Int)) = false := by simp; omega
      have hin : inner bs = (bs.drop 8).take n := by unfold inner; rw [HN.out]
      have hlen : (inner bs).length = n := by rw [inner_length (by rw [HN.out]; omega), HN.out]
      have hby : Bytes (inner bs) := inner_bytes hbs
      have hri : Row w3 (some ⟨g, off + 8, none⟩) n (inner bs) := by rw [hin]; exact Pack.Row.part hr3 8 n (by omega) _ (fun _ => rfl)
      have hsee : ∀ y, y = Value.slice (some ⟨g, off + 8, none⟩) n (cap - 8) → Sees w3 1 y n (cellsOf (inner bs)) := fun y h => h ▸ hri.sees (by simp)
      have u1 : (8 : Int) + (n : Int) ≤ (cap : Int) := by omega
      have u2 : (n : Int) + 8 ≤ (cap : Int) := by omega
      have hc8 : ¬ cap = 8 := by omega
      obtain ⟨Z, hZ⟩ : ∃ Z, inner bs = Z := ⟨_, rfl⟩
      rw [hZ] at hlen hby hri hsee
      have HZ := Lib.hid hZ
      clear hZ hin hr hr3
      have hown := World.ownsRow_nil w3 w3.heap.size 5 1
      have HB := Lib.hid hbC
      clear hnil
      have hsl := sumOf_lt 0 Z
      go_wp2_with (at_builtin; refine wpList_append_onto rfl _ _ 30 rfl w3.heap.size 5 i0 _ 1 1 Try.underlying30 hi0 hz0 hz1 hz2 rfl (by omega) (.slice none 0 0) 0 [] rfl hown _ n (cellsOf Z) rfl (hsee _ (by simp [Act.eval])) (cellsOf_one _) (by unfold maxLen; omega) (by omega) (Nat.le_refl _) ?_; intro v4 w4 ho4 hon4)
      have hb4 := hon4.below hown (Nat.le_refl _)
      have hb4' := HB.out.trans (hb4.mono HB.out.size)
      rw [Nat.zero_add, List.nil_append] at ho4
      have ho4' : w4.ownsRow w.heap.size 5 1 v4 n (cellsOf Z) := ⟨ho4.1, by
        rcases ho4.2 with h | ⟨g', c', cur', q1, q2, q3⟩
        · exact .inl h
        · exact .inr ⟨g', c', cur', q1, Nat.le_trans HB.out.size q2, q3⟩⟩
      obtain ⟨a4, c4, rfl, hr4, hl4, hD4⟩ := own_shape ho4 hby
      have HL := Lib.hid hlen
      clear hon4 hown hsee hri hb4 ho4 hl4 hlen
      refine (sum_any a4 n c4 Z w4 hr4 (by omega)).mono ?_
      rintro e w' ⟨rfl, rfl⟩
      by_cases hq : sumOf 0 Z = s
      · have e1 : bad bs = 0 := bad_none (by rw [HN.out]; exact h1) (by rw [HN.out]; exact h2) (by rw [HN.out]; omega) (by rw [HZ.out, HS.out]; exact hq)
        have e2 : many bs = 8 + n := by unfold many; rw [if_pos e1, HN.out]
        have e3 : body bs = Z := by unfold body; rw [if_pos e1, HZ.out]
        have E1 := Lib.hid e1
        have E2 := Lib.hid e2
        have E3 := Lib.hid e3
        have hq' : (((sumOf 0 Z : Nat) : Int) != (s : Int)) = false := by simp [hq]
        clear e1 e2 e3 hq
        go_wp2_with fail
        go_ret3
        rw [E1.out, E2.out, E3.out]
        rw [HL.out]
        exact ⟨_, rfl, ho4', hb4'⟩
      · have e1 : bad bs = 4 := bad_sum (by rw [HN.out]; exact h1) (by rw [HN.out]; exact h2) (by rw [HN.out]; omega) (by rw [HZ.out, HS.out]; exact hq)
        have hq' : (((sumOf 0 Z : Nat) : Int) != (s : Int)) = true := by simp; omega
        have e2 := many_none (bs := bs) (by omega)
        have e3 := body_none (bs := bs) (by omega)
        have E1 := Lib.hid e1
        have E2 := Lib.hid e2
        have E3 := Lib.hid e3
        clear e1 e2 e3 hq
        go_wp2_with fail
        go_ret3
        rw [E1.out, E2.out, E3.out]
        exact ⟨.slice none 0 0, rfl, World.ownsRow_nil _ _ _ _, hb4'⟩
end Go.Proofs.Ytiaaadeenbjciaa.Frame
