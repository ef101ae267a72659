/- PackBack: what was put is read as it was: the walk of the law. -/
import Derived.Test.YtmkinndjahkdlaaPackUp
namespace Go.Proofs.Ytmkinndjahkdlaa.Pack
open Go.Proofs.Ytmkinndjahkdlaa.Mem
open Go.ChangeShapes Go.WideShapes Go.ChangeAt Go.RowKit
set_option linter.unusedVariables false

theorem got_front {xs : List Int} (ys : List Int) {k : Nat} (h : xs.length = k) : got (xs ++ ys) k = xs := by
  subst h
  unfold got
  rw [if_pos (by simp)]
  exact List.take_left
theorem left_front {xs : List Int} (ys : List Int) {k : Nat} (h : xs.length = k) : left (xs ++ ys) k = ys := by
  subst h
  unfold left
  rw [if_pos (by simp)]
  exact List.drop_left
theorem short_front {xs : List Int} (ys : List Int) {k : Nat} (h : xs.length = k) (s : Bool) : shortBy (xs ++ ys) k s = s := by
  subst h
  exact if_pos (by simp)
theorem textLen_front (s : ByteArray) (hs : s.size ≤ 65535) (ys : List Int) : textLen (put s.size 2 ++ (strBytes s ++ ys)) = s.size := by
  unfold textLen
  rw [got_front _ (put_length _ _), num_put]
  exact Nat.mod_eq_of_lt (by omega)
theorem textGot_front (s : ByteArray) (hs : s.size ≤ 65535) (ys : List Int) : textGot (put s.size 2 ++ (strBytes s ++ ys)) = strBytes s := by
  unfold textGot
  rw [textLen_front s hs, left_front _ (put_length _ _), got_front _ (strBytes_length s)]
theorem textLeft_front (s : ByteArray) (hs : s.size ≤ 65535) (ys : List Int) : textLeft (put s.size 2 ++ (strBytes s ++ ys)) = ys := by
  unfold textLeft
  rw [textLen_front s hs, left_front _ (put_length _ _), left_front _ (strBytes_length s)]
theorem textShort_front (s : ByteArray) (hs : s.size ≤ 65535) (ys : List Int) (b : Bool) : textShort (put s.size 2 ++ (strBytes s ++ ys)) b = b := by
  unfold textShort
  rw [textLen_front s hs, left_front _ (put_length _ _), short_front _ (strBytes_length s), short_front _ (put_length _ _)]

set_option maxHeartbeats 1000000 in
theorem back_long (n m : Nat) (s : ByteArray) (hs : 65535 < s.size) (hs2 : s.size ≤ 9223372036854775807) (w : World) :
    Calls Try.prog 5 #[.int .u64 (n : Int), .string s, .int .u64 (m : Int)] w fun e w' => e = .returned (.bool true) ∧ Below w.heap.size w w' := by
  go_enter Try.func5, Try.ntmps5
  go_wp2_with fail
  refine (up_any w).mono ?_
  rintro e w1 ⟨rfl, hb1⟩
  go_wp2_with fail
  go_ret
  exact ⟨rfl, hb1⟩
set_option maxHeartbeats 2000000 in
theorem back_short (n m : Nat) (hn : n < 18446744073709551616) (hm : m < 18446744073709551616) (s : ByteArray) (hs : s.size ≤ 65535) (w : World) :
    Calls Try.prog 5 #[.int .u64 (n : Int), .string s, .int .u64 (m : Int)] w fun e w' => e = .returned (.bool true) ∧ Below w.heap.size w w' := by
  have hcut : s = cut s := by rw [cut, if_neg (by omega)]
  have HCUT := Lib.hid hcut
  clear hcut
  go_enter Try.func5, Try.ntmps5
  go_wp2_with fail
  refine (up_any w).mono ?_
  rintro e w1 ⟨rfl, hb1⟩
  go_wp2_with fail
  refine (put_any n hn 8 (by omega) (by omega) (.slice none 0 0) 0 [] w1.heap.size w1 (World.ownsRow_nil _ _ _ _) (Nat.le_refl _) (by omega)).mono ?_
  rintro e w2 ⟨v2, rfl, ho2, hon2⟩
  have hb2 := hon2.below (World.ownsRow_nil w1 w1.heap.size 5 1) (Nat.le_refl _)
  go_wp2_with fail
  refine (putText_any s s HCUT.out v2 _ _ w1.heap.size w2 ho2 hb2.size (by omega) (by omega)).mono ?_
  rintro e w3 ⟨v3, rfl, ho3, hon3⟩
  have hb3 := hb2.trans (hon3.below ho2 hb2.size)
  go_wp2_with fail
  refine (put_any m hm 4 (by omega) (by omega) v3 _ _ w1.heap.size w3 ho3 hb3.size (by omega)).mono ?_
  rintro e w4 ⟨v4, rfl, ho4, hon4⟩
  have hb4 := hb3.trans (hon4.below ho3 hb3.size)
  have hbytes : Bytes (((([] ++ put n 8) ++ put s.size 2) ++ strBytes s) ++ put m 4) := bytes_append (bytes_append (bytes_append (bytes_append bytes_nil (put_bytes _ _)) (put_bytes _ _)) (strBytes_bytes s)) (put_bytes _ _)
  obtain ⟨a4, c4, rfl, hr4, hlen4, hD4⟩ := own_shape ho4 hbytes
  have hnil : a4 = none → c4 = 0 := by
    rintro rfl
    rcases hD4 with ⟨_, h, _⟩ | ⟨g, h, _⟩
    · exact h
    · cases h
  have hzs : ((([] ++ put n 8) ++ put s.size 2) ++ strBytes s) ++ put m 4 = put n 8 ++ (put s.size 2 ++ (strBytes s ++ (put m 4 ++ []))) := by simp
  rw [hzs] at hr4
  clear ho2 ho3 ho4 hon2 hon3 hon4 hbytes hlen4 hD4 hzs hb2 hb3
  go_wp2_with fail
  refine (new_any a4 _ c4 _ w4 hr4 hnil (by omega)).mono ?_
  rintro e w5 ⟨p, rfl, hp, D, hrd5, hb5, hDa, hDb⟩
  clear hr4 hnil
  go_wp2_with fail
  have k1 := number_any p _ false 8 (by omega) (by omega) w5 hrd5
  rw [got_front _ (put_length _ _), left_front _ (put_length _ _), short_front _ (put_length _ _), num_put, Nat.mod_eq_of_lt (show n < 256 ^ 8 from hn)] at k1
  refine k1.mono ?_
  rintro e w6 ⟨rfl, hrd6, hb6⟩
  clear k1 hrd5
  go_wp2_with fail
  have k2 := text_any p _ false w6 hrd6
  rw [textGot_front s hs, textLeft_front s hs, textShort_front s hs, strOf_strBytes] at k2
  refine k2.mono ?_
  rintro e w7 ⟨rfl, hrd7, hb7⟩
  clear k2 hrd6
  go_wp2_with fail
  have k3 := number_any p _ false 4 (by omega) (by omega) w7 hrd7
  rw [got_front _ (put_length _ _), left_front _ (put_length _ _), short_front _ (put_length _ _), num_put] at k3
  have e4 : ((m % 256 ^ 4 : Nat) : Int) = (m : Int) % 4294967296 := by
    have : (256 : Nat) ^ 4 = 4294967296 := by decide
    rw [this]; omega
  rw [e4] at k3
  refine k3.mono ?_
  rintro e w8 ⟨rfl, hrd8, hb8⟩
  clear k3 hrd7 e4
  go_wp2_with fail
  refine (left_any p [] false w8 hrd8).mono ?_
  rintro e w9 ⟨rfl, rfl⟩
  go_wp2_with fail
  refine (short_any p [] false w8 hrd8).mono ?_
  rintro e w9 ⟨rfl, rfl⟩
  go_wp2_with fail
  go_ret
  have hbB : Below w.heap.size w w4 := hb1.trans (hb4.mono hb1.size)
  have hbC : Below w.heap.size w w5 := hbB.trans (hb5.mono hbB.size)
  have hpp : w.heap.size ≤ p := Nat.le_trans hbB.size hp
  have hbD : Below w.heap.size w w6 := hbC.trans (hb6.below hbC.size (fun k hk => by omega))
  have hbE : Below w.heap.size w w7 := hbD.trans (hb7.below hbD.size (fun k hk => by omega))
  have hbF : Below w.heap.size w w8 := hbE.trans (hb8.below hbE.size (fun k hk => by omega))
  exact ⟨rfl, hbF⟩
end Go.Proofs.Ytmkinndjahkdlaa.Pack
