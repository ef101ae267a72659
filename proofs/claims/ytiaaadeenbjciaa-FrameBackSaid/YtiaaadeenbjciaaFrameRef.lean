/- Contract of the reference's Get of layer 5; and layer 5's Get at whatever bytes. -/
import Derived.Test.YtiaaadeenbjciaaFrameGet
namespace Go.Proofs.Ytiaaadeenbjciaa.Frame
open Go.Proofs.Ytiaaadeenbjciaa.Mem Go.Proofs.Ytiaaadeenbjciaa.Err
open Go.Proofs.Ytiaaadeenbjciaa.Pack (put num got left shortBy put_length put_bytes put_any refPut_any new_any number_any Rd Rf refNumber_any rf_new u8_info)
open Go.Proofs.Ytiaaadeenbjciaa.Crc (sumOf sumOf_lt sum_any refSum_any)
open Go.ChangeShapes Go.WideShapes Go.ChangeAt Go.RowKit
set_option linter.unusedVariables false

theorem get_any (a : Option Addr) (cap : Nat) (bs : List Int) (w : World) (h : In w a bs.length cap bs) (hl : bs.length ≤ 1073741824) :
    Calls Try.prog 28 #[.slice a bs.length cap] w fun e w' => ∃ v, e = .returned (.tuple #[v, .int .i64 (many bs : Int), errV (bad bs : Int)]) ∧ w'.ownsRow w.heap.size 5 1 v (body bs).length (cellsOf (body bs)) ∧ Below w.heap.size w w' := by
  by_cases h8 : bs.length < 8
  · have e1 : bad bs = 3 := bad_short h8
    have e2 := many_none (bs := bs) (by omega)
    have e3 := body_none (bs := bs) (by omega)
    rw [e1, e2, e3]
    refine (get_short a bs.length cap w h8).mono ?_
    rintro e w' ⟨rfl, rfl⟩
    exact ⟨.slice none 0 0, rfl, World.ownsRow_nil _ _ _ _, Below.refl _ _⟩
  · exact get_long a cap bs w h (by omega) hl
theorem short_two (bs : List Int) : shortBy (left bs 4) 4 (shortBy bs 4 false) = decide (bs.length < 8) := by
  by_cases h4 : bs.length < 4
  · have e1 : shortBy bs 4 false = true := if_neg (by omega)
    have e2 : left bs 4 = [] := if_neg (by omega)
    rw [e1, e2]
    have : decide (bs.length < 8) = true := by simp; omega
    rw [this]; rfl
  · have e1 : shortBy bs 4 false = false := if_pos (by omega)
    have e2 := left_length (bs := bs) (k := 4) (by omega)
    rw [e1]
    unfold shortBy
    rw [e2]
    by_cases h8 : bs.length < 8
    · rw [if_neg (by omega)]; simp; omega
    · rw [if_pos (by omega)]; simp; omega
/- What the reference's Get answers. -/
def RefGets (w : World) (bs : List Int) (e : Ending) (w' : World) : Prop :=
  ∃ a' c', e = .returned (.tuple #[.slice a' (body bs).length c', .int .i64 (many bs : Int), .int .i64 (bad bs : Int)]) ∧ Row w' a' (body bs).length (body bs) ∧ Below w.heap.size w w'
set_option maxRecDepth 100000 in
set_option maxHeartbeats 2000000 in
theorem refGet_any (a : Option Addr) (cap : Nat) (bs : List Int) (w : World) (h : In w a bs.length cap bs) (hl : bs.length ≤ 1073741824) :
    Calls Try.prog 29 #[.slice a bs.length cap] w (RefGets w bs) := by
  have hbs := h.row.2.1
  have hhl := head_lt hbs
  have htl := told_lt hbs
  have ha0 : ∀ x, a = some x → 0 < bs.length → x.block < w.heap.size := by
    intro x hx0 hn
    obtain ⟨b, off, he, hlt, _⟩ := h.row.2.2 hn
    rw [hx0] at he
    injection he with he
    subst he
    exact hlt
  have hrf := rf_new w a bs cap h.row h.fits h.small hl h.nil w.heap.size ha0 91
  have hb1 : Below w.heap.size w (w.alloc (.cells #[.slice a bs.length cap, .int .i64 0, .bool false] 91)) := (Below.refl _ _).alloc (Nat.le_refl _) _
  have H := Lib.hid h
  have HBS := Lib.hid hbs
  clear ha0 h hbs
  go_enter Try.func29, Try.ntmps29
  go_wp2_with fail
  generalize hw1 : w.alloc (.cells #[.slice a bs.length cap, .int .i64 0, .bool false] 91) = w1 at hrf hb1 ⊢
  clear hw1
  have k1 := refNumber_any w.heap.size _ false 4 (by omega) (by omega) w1 hrf
  refine k1.mono ?_
  rintro e w2 ⟨rfl, hrf2, hb2⟩
  clear k1 hrf
  have k2 := refNumber_any w.heap.size _ _ 4 (by omega) (by omega) w2 hrf2
  rw [short_two] at k2
  have e1 : num (got bs 4) = head bs := rfl
  have e2 : num (got (left bs 4) 4) = told bs := rfl
  rw [e1]
  rw [e2] at k2
  clear e1 e2
  go_wp2_with fail
  refine k2.mono ?_
  rintro e w3 ⟨rfl, hrf3, hb3⟩
  clear k2 hrf2
  have hbB : Below w.heap.size w w2 := hb1.trans (hb2.below hb1.size (fun k hk => by omega))
  have hbC : Below w.heap.size w w3 := hbB.trans (hb3.below hbB.size (fun k hk => by omega))
  have k0 := Pack.Rf.short hrf3
  clear hb1 hb2 hb3 hbB hrf3
  obtain ⟨n, hn⟩ : ∃ n, head bs = n := ⟨_, rfl⟩
  obtain ⟨s, hs⟩ : ∃ s, told bs = s := ⟨_, rfl⟩
  rw [hn] at hhl ⊢
  rw [hs] at htl ⊢
  have HN := Lib.hid hn
  have HS := Lib.hid hs
  clear hn hs
  by_cases h8 : bs.length < 8
  · have t0 : decide (bs.length < 8) = true := by simpa using h8
    rw [t0] at k0
    clear t0
    go_wp2_with fail
    go_ret3
    unfold RefGets
    have e1 : bad bs = 3 := bad_short h8
    have e2 := many_none (bs := bs) (by omega)
    have e3 := body_none (bs := bs) (by omega)
    rw [e1, e2, e3]
    exact ⟨none, 0, rfl, Row.nil, hbC⟩
  · have t0 : decide (bs.length < 8) = false := by simpa using h8
    rw [t0] at k0
    clear t0
    by_cases hf : n < 1 ∨ 20000 < n
    · have e1 : bad bs = 2 := bad_form (by omega) (by rw [HN.out]; exact hf)
      have e2 := many_none (bs := bs) (by omega)
      have e3 := body_none (bs := bs) (by omega)
      have E1 := Lib.hid e1
      have E2 := Lib.hid e2
      have E3 := Lib.hid e3
      clear e1 e2 e3
      by_cases hn1 : n < 1
      · clear hf
        go_wp2_with fail
        go_ret3
        unfold RefGets
        rw [E1.out, E2.out, E3.out]
        exact ⟨none, 0, rfl, Row.nil, hbC⟩
      · have hn2 : 20000 < n := by omega
        clear hf
        go_wp2_with fail
        go_ret3
        unfold RefGets
        rw [E1.out, E2.out, E3.out]
        exact ⟨none, 0, rfl, Row.nil, hbC⟩
    · have h1 : 1 ≤ n := by omega
      have h2 : n ≤ 20000 := by omega
      clear hf
      obtain ⟨hr, hlc, hcm, hnil⟩ := H.out
      obtain ⟨g, off, rfl, hg, _⟩ := hr.2.2 (by omega)
      have hcm' : (cap : Int) ≤ 9223372036854775807 := by simp only [maxLen] at hcm; omega
      by_cases ht : bs.length < 8 + n
      · have ht' : decide ((bs.length : Int) - 8 < (n : Int)) = true := by simp; omega
        have e1 : bad bs = 3 := bad_trunc (by omega) (by rw [HN.out]; exact h1) (by rw [HN.out]; exact h2) (by rw [HN.out]; exact ht)
        have e2 := many_none (bs := bs) (by omega)
        have e3 := body_none (bs := bs) (by omega)
        have E1 := Lib.hid e1
        have E2 := Lib.hid e2
        have E3 := Lib.hid e3
        clear e1 e2 e3
        go_wp2_with fail
        go_ret3
        unfold RefGets
        rw [E1.out, E2.out, E3.out]
        exact ⟨none, 0, rfl, Row.nil, hbC⟩
      · have ht' : decide ((bs.length : Int) - 8 < (n : Int)) = false := by simp; omega
        have hin : inner bs = (bs.drop 8).take n := by unfold inner; rw [HN.out]
        have hlen : (inner bs).length = n := by rw [inner_length (by rw [HN.out]; omega), HN.out]
        have hri : Row w3 (some ⟨g, off + 8, none⟩) n (inner bs) := by rw [hin]; exact Pack.Row.part (hr.below hbC) 8 n (by omega) _ (fun _ => rfl)
        have u1 : (8 : Int) + (n : Int) ≤ (cap : Int) := by omega
        have u2 : (n : Int) + 8 ≤ (cap : Int) := by omega
        have hc8 : ¬ cap = 8 := by omega
        obtain ⟨Z, hZ⟩ : ∃ Z, inner bs = Z := ⟨_, rfl⟩
        rw [hZ] at hlen hri
        have HZ := Lib.hid hZ
        have HL := Lib.hid hlen
        clear hZ hin hlen hr hnil hcm
        have hsl := sumOf_lt 0 Z
        go_wp2_with fail
        refine (refSum_any _ n _ Z w3 hri (by omega)).mono ?_
        rintro e w' ⟨rfl, rfl⟩
        by_cases hq : sumOf 0 Z = s
        · have e1 : bad bs = 0 := bad_none (by rw [HN.out]; exact h1) (by rw [HN.out]; exact h2) (by rw [HN.out]; omega) (by rw [HZ.out, HS.out]; exact hq)
          have e2 : many bs = 8 + n := by unfold many; rw [if_pos e1, HN.out]
          have e3 : body bs = Z := by unfold body; rw [if_pos e1, HZ.out]
          have E1 := Lib.hid e1
          have E2 := Lib.hid e2
          have E3 := Lib.hid e3
          have hq' : (((sumOf 0 Z : Nat) : Int) != (s : Int)) = false := by simp [hq]
          clear e1 e2 e3 hq
          go_wp2_with fail
          go_ret3
          unfold RefGets
          rw [E1.out, E2.out, E3.out, HL.out]
          exact ⟨_, _, rfl, hri, hbC⟩
        · have e1 : bad bs = 4 := bad_sum (by rw [HN.out]; exact h1) (by rw [HN.out]; exact h2) (by rw [HN.out]; omega) (by rw [HZ.out, HS.out]; exact hq)
          have hq' : (((sumOf 0 Z : Nat) : Int) != (s : Int)) = true := by simp; omega
          have e2 := many_none (bs := bs) (by omega)
          have e3 := body_none (bs := bs) (by omega)
          have E1 := Lib.hid e1
          have E2 := Lib.hid e2
          have E3 := Lib.hid e3
          clear e1 e2 e3 hq
          go_wp2_with fail
          go_ret3
          unfold RefGets
          rw [E1.out, E2.out, E3.out]
          exact ⟨none, 0, rfl, Row.nil, hbC⟩
end Go.Proofs.Ytiaaadeenbjciaa.Frame
