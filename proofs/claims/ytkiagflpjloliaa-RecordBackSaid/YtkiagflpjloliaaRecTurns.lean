/- What was put is read as it was, and what is read is put as those bytes. -/
import Derived.Test.YtkiagflpjloliaaRecList
namespace Go.Proofs.Ytkiagflpjloliaa.Rec
open Go.Proofs.Ytkiagflpjloliaa.Mem Go.Proofs.Ytkiagflpjloliaa.Pack
open Go.RowKit
set_option linter.unusedVariables false
set_option linter.unusedSimpArgs false

theorem skip_front (n k : Nat) (ys : List Int) (s : Bool) : (⟨put n k ++ ys, s⟩ : Pos).skip k = ⟨ys, s⟩ := by
  unfold Pos.skip
  simp only
  rw [left_front _ (put_length _ _), short_front _ (put_length _ _)]
theorem num_front (n k : Nat) (ys : List Int) (s : Bool) : (⟨put n k ++ ys, s⟩ : Pos).num k = n % 256 ^ k := by
  unfold Pos.num
  simp only
  rw [got_front _ (put_length _ _), num_put]
theorem text_app (t : ByteArray) (ys : List Int) : text t ++ ys = put t.size 2 ++ (strBytes t ++ ys) := by
  unfold text; rw [List.append_assoc]
theorem txt_front (t : ByteArray) (ht : t.size ≤ 65535) (ys : List Int) (s : Bool) : (⟨text t ++ ys, s⟩ : Pos).txt = t := by
  unfold Pos.txt
  simp only
  rw [text_app, textGot_front t ht, strOf_strBytes]
theorem past_front (t : ByteArray) (ht : t.size ≤ 65535) (ys : List Int) (s : Bool) : (⟨text t ++ ys, s⟩ : Pos).past = ⟨ys, s⟩ := by
  unfold Pos.past
  simp only
  rw [text_app, textLeft_front t ht, textShort_front t ht]
theorem put_num {zs : List Int} (h : Bytes zs) : put (num zs) zs.length = zs := by
  induction zs with
  | nil => rfl
  | cons z zs ih =>
    have hz := h z List.mem_cons_self
    have h2 := ih (fun x hx => h x (List.mem_cons_of_mem _ hx))
    rw [num, List.length_cons, put]
    have e1 : (z.toNat + 256 * num zs) % 256 = z.toNat := by omega
    have e2 : (z.toNat + 256 * num zs) / 256 = num zs := by omega
    rw [e1, e2, h2]
    congr 1
    omega
theorem skip_ok {P : Pos} {k : Nat} (hB : Bytes P.zs) (h : (P.skip k).short = false) : P.short = false ∧ P.zs = put (P.num k) k ++ (P.skip k).zs := by
  have h1 : shortBy P.zs k P.short = false := h
  unfold shortBy at h1
  split at h1
  · rename_i hk
    refine ⟨h1, ?_⟩
    have e1 : got P.zs k = P.zs.take k := if_pos hk
    have e2 : (P.skip k).zs = P.zs.drop k := if_pos hk
    have e3 : P.num k = num (P.zs.take k) := by unfold Pos.num; rw [e1]
    have e4 : (P.zs.take k).length = k := by rw [List.length_take]; omega
    have e5 := put_num (bytes_take hB k)
    rw [e4] at e5
    rw [e2, e3, e5, List.take_append_drop]
  · cases h1
theorem past_ok {P : Pos} (hB : Bytes P.zs) (h : P.past.short = false) : P.short = false ∧ P.zs = text P.txt ++ P.past.zs := by
  have h1 : shortBy (left P.zs 2) (textLen P.zs) (shortBy P.zs 2 P.short) = false := h
  unfold shortBy at h1
  split at h1
  · rename_i hk
    split at h1
    · rename_i hk2
      refine ⟨h1, ?_⟩
      have e1 : got P.zs 2 = P.zs.take 2 := if_pos hk2
      have e2 : left P.zs 2 = P.zs.drop 2 := if_pos hk2
      have e3 : textLen P.zs = num (P.zs.take 2) := by unfold textLen; rw [e1]
      rw [e2] at hk
      have e4 : textGot P.zs = (P.zs.drop 2).take (textLen P.zs) := by unfold textGot; rw [e2]; exact if_pos hk
      have e5 : P.past.zs = (P.zs.drop 2).drop (textLen P.zs) := by
        show textLeft P.zs = _
        unfold textLeft; rw [e2]; exact if_pos hk
      have hb : Bytes (textGot P.zs) := by rw [e4]; exact bytes_take (bytes_drop hB 2) _
      have e6 : strBytes P.txt = textGot P.zs := strBytes_strOf hb
      have e7 : P.txt.size = textLen P.zs := by rw [← strBytes_length, e6, e4, List.length_take]; omega
      have e8 : (P.zs.take 2).length = 2 := by rw [List.length_take]; omega
      have e9 := put_num (bytes_take hB 2)
      rw [e8, ← e3] at e9
      unfold text
      rw [e6, e7, e9, e4, e5, List.append_assoc, List.take_append_drop, List.take_append_drop]
    · cases h1
  · cases h1
theorem sgn_small {n : Nat} (h : n ≤ 1099511627776) : sgn n = (n : Int) := by
  unfold sgn wrap64; omega
theorem sgn_back {n : Nat} (h : n < 18446744073709551616) (h0 : 0 ≤ sgn n) : (sgn n).toNat = n := by
  unfold sgn wrap64 at h0 ⊢; omega
theorem mod1 {n : Nat} (h : n < 256) : n % 256 ^ 1 = n := Nat.mod_eq_of_lt (by rw [Nat.pow_one]; exact h)
theorem pow4 : (256 : Nat) ^ 4 = 4294967296 := by decide
theorem pow8 : (256 : Nat) ^ 8 = 18446744073709551616 := by decide
theorem mod4 {n : Nat} (h : n < 4294967296) : n % 256 ^ 4 = n := Nat.mod_eq_of_lt (by rw [pow4]; exact h)
theorem mod8 {n : Nat} (h : n < 18446744073709551616) : n % 256 ^ 8 = n := Nat.mod_eq_of_lt (by rw [pow8]; exact h)
theorem front_any (r : Rcd) (hm : May r) (hi : Is r) (ys : List Int) : first ⟨bytesOf r ++ ys, false⟩ = r ∧ behind ⟨bytesOf r ++ ys, false⟩ = ⟨ys, false⟩ := by
  obtain ⟨k, b, g, q1, q2, q3, s1, s2, ri, se, ke, va, ve, ex⟩ := r
  have hk1 : 1 ≤ k := hm.1
  have hk7 : k ≤ 7 := hm.2.1
  have hb0 : 0 ≤ b := hm.2.2.1
  have hb1 : b < 64 := hm.2.2.2.1
  have hnm := hm.2.2.2.2.2.1
  have hf := hm.2.2.2.2.2.2
  have mg := mod4 hi.gen
  have ms2 := mod4 hi.serial
  have ms1 := mod8 hi.seq
  have mse := mod8 hi.secret
  have mve := mod8 hi.version
  have mex := mod8 hi.expiry
  have mb := mod1 (n := b.toNat) (by omega)
  have eb : ((b.toNat : Nat) : Int) = b := Int.toNat_of_nonneg hb0
  simp only at mg ms1 ms2 mse mve mex
  have hk : k = 1 ∨ k = 2 ∨ k = 3 ∨ k = 4 ∨ k = 5 ∨ k = 6 ∨ k = 7 := by omega
  clear hk1 hk7
  rcases hk with rfl | rfl | rfl | rfl | rfl | rfl | rfl
  · obtain ⟨⟨p1, p2⟩, ⟨p3, p4⟩, ⟨p5, p6⟩⟩ : (0 ≤ q1 ∧ q1 ≤ 1099511627776) ∧ (0 ≤ q2 ∧ q2 ≤ 1099511627776) ∧ (0 ≤ q3 ∧ q3 ≤ 1099511627776) := hf
    have a1 := mod8 (n := q1.toNat) (by omega)
    have a2 := mod8 (n := q2.toNat) (by omega)
    have a3 := mod8 (n := q3.toNat) (by omega)
    have c1 : sgn q1.toNat = q1 := (sgn_small (by omega)).trans (Int.toNat_of_nonneg p1)
    have c2 : sgn q2.toNat = q2 := (sgn_small (by omega)).trans (Int.toNat_of_nonneg p3)
    have c3 : sgn q3.toNat = q3 := (sgn_small (by omega)).trans (Int.toNat_of_nonneg p5)
    have e : bytesOf ⟨1, b, g, q1, q2, q3, s1, s2, ri, se, ke, va, ve, ex⟩ ++ ys = put 1 1 ++ (put b.toNat 1 ++ (put g 4 ++ (put q1.toNat 8 ++ (put q2.toNat 8 ++ (put q3.toNat 8 ++ (put s1 8 ++ (put s2 4 ++ ys))))))) := by simp [bytesOf, more]
    rw [e]
    refine ⟨?_, ?_⟩
    · rw [hnm]
      unfold first
      simp only [skip_front, num_front]
      rw [if_pos (by decide), mb, mg, a1, a2, a3, ms1, ms2, c1, c2, c3, eb]
      rfl
    · unfold behind
      simp only [skip_front, num_front]
      rw [if_pos (by decide)]
  · clear hi
    have e : bytesOf ⟨2, b, g, q1, q2, q3, s1, s2, ri, se, ke, va, ve, ex⟩ ++ ys = put 2 1 ++ (put b.toNat 1 ++ (put g 4 ++ ys)) := by simp [bytesOf, more]
    rw [e]
    refine ⟨?_, ?_⟩
    · rw [hnm]
      unfold first
      simp only [skip_front, num_front]
      rw [if_neg (by decide), if_neg (by decide), if_neg (by decide), if_neg (by decide), if_neg (by decide), mb, mg, eb]
      rfl
    · unfold behind
      simp only [skip_front, num_front]
      rw [if_neg (by decide), if_neg (by decide), if_neg (by decide), if_neg (by decide), if_neg (by decide)]
  · clear hi
    obtain ⟨⟨p1, p2⟩, p3⟩ : (1 ≤ ke.size ∧ ke.size ≤ 64) ∧ va.size ≤ 1000 := hf
    have t1 := txt_front ke (by omega)
    have t2 := txt_front va (by omega)
    have t3 := past_front ke (by omega)
    have t4 := past_front va (by omega)
    have e : bytesOf ⟨3, b, g, q1, q2, q3, s1, s2, ri, se, ke, va, ve, ex⟩ ++ ys = put 3 1 ++ (put b.toNat 1 ++ (put g 4 ++ (put ve 8 ++ (put ex 8 ++ (text ke ++ (text va ++ ys)))))) := by simp [bytesOf, more]
    rw [e]
    refine ⟨?_, ?_⟩
    · rw [hnm]
      unfold first
      simp only [skip_front, num_front, t1, t2, t3, t4]
      rw [if_neg (by decide), if_pos (by decide), mb, mg, mve, mex, eb]
      rfl
    · unfold behind
      simp only [skip_front, num_front, t1, t2, t3, t4]
      rw [if_neg (by decide), if_pos (by decide)]
  · clear hi
    obtain ⟨p1, p2⟩ : 1 ≤ ke.size ∧ ke.size ≤ 64 := hf
    have t1 := txt_front ke (by omega)
    have t3 := past_front ke (by omega)
    have e : bytesOf ⟨4, b, g, q1, q2, q3, s1, s2, ri, se, ke, va, ve, ex⟩ ++ ys = put 4 1 ++ (put b.toNat 1 ++ (put g 4 ++ (put ve 8 ++ (text ke ++ ys)))) := by simp [bytesOf, more]
    rw [e]
    refine ⟨?_, ?_⟩
    · rw [hnm]
      unfold first
      simp only [skip_front, num_front, t1, t3]
      rw [if_neg (by decide), if_neg (by decide), if_pos (by decide), mb, mg, mve, eb]
      rfl
    · unfold behind
      simp only [skip_front, num_front, t1, t3]
      rw [if_neg (by decide), if_neg (by decide), if_pos (by decide)]
  · clear hi
    obtain ⟨p1, p2⟩ : 1 ≤ ri ∧ ri ≤ 7 := hf
    have mr := mod1 (n := ri.toNat) (by omega)
    have er : ((ri.toNat : Nat) : Int) = ri := Int.toNat_of_nonneg (by omega)
    have e : bytesOf ⟨5, b, g, q1, q2, q3, s1, s2, ri, se, ke, va, ve, ex⟩ ++ ys = put 5 1 ++ (put b.toNat 1 ++ (put g 4 ++ (put s2 4 ++ (put ri.toNat 1 ++ (put se 8 ++ ys))))) := by simp [bytesOf, more]
    rw [e]
    refine ⟨?_, ?_⟩
    · rw [hnm]
      unfold first
      simp only [skip_front, num_front]
      rw [if_neg (by decide), if_neg (by decide), if_neg (by decide), if_pos (by decide), mb, mg, ms2, mr, mse, eb, er]
      rfl
    · unfold behind
      simp only [skip_front, num_front]
      rw [if_neg (by decide), if_neg (by decide), if_neg (by decide), if_pos (by decide)]
  · clear hi
    have e : bytesOf ⟨6, b, g, q1, q2, q3, s1, s2, ri, se, ke, va, ve, ex⟩ ++ ys = put 6 1 ++ (put b.toNat 1 ++ (put g 4 ++ (put s2 4 ++ ys))) := by simp [bytesOf, more]
    rw [e]
    refine ⟨?_, ?_⟩
    · rw [hnm]
      unfold first
      simp only [skip_front, num_front]
      rw [if_neg (by decide), if_neg (by decide), if_neg (by decide), if_neg (by decide), if_pos (by decide), mb, mg, ms2, eb]
      rfl
    · unfold behind
      simp only [skip_front, num_front]
      rw [if_neg (by decide), if_neg (by decide), if_neg (by decide), if_neg (by decide), if_pos (by decide)]
  · clear hi
    have e : bytesOf ⟨7, b, g, q1, q2, q3, s1, s2, ri, se, ke, va, ve, ex⟩ ++ ys = put 7 1 ++ (put b.toNat 1 ++ (put g 4 ++ ys)) := by simp [bytesOf, more]
    rw [e]
    refine ⟨?_, ?_⟩
    · rw [hnm]
      unfold first
      simp only [skip_front, num_front]
      rw [if_neg (by decide), if_neg (by decide), if_neg (by decide), if_neg (by decide), if_neg (by decide), mb, mg, eb]
      rfl
    · unfold behind
      simp only [skip_front, num_front]
      rw [if_neg (by decide), if_neg (by decide), if_neg (by decide), if_neg (by decide), if_neg (by decide)]
theorem back_any (P : Pos) (hB : Bytes P.zs) (hm : May (first P)) (h : (behind P).short = false) : P.zs = bytesOf (first P) ++ (behind P).zs := by
  have b1 := skip_bytes hB 1
  have b2 := skip_bytes b1 1
  have b3 := skip_bytes b2 4
  have hf := hm.2.2.2.2.2.2
  have hk1 := hm.1
  have hk7 := hm.2.1
  by_cases hk : P.num 1 = 1
  · have eb : behind P = ((((((((P.skip 1).skip 1).skip 4).skip 8).skip 8).skip 8).skip 8).skip 4) := by unfold behind; simp only; rw [if_pos hk]
    rw [eb] at h ⊢
    have b4 := skip_bytes b3 8
    have b5 := skip_bytes b4 8
    have b6 := skip_bytes b5 8
    have b7 := skip_bytes b6 8
    have b8 := skip_bytes b7 4
    obtain ⟨g8, z8⟩ := skip_ok b7 h
    obtain ⟨g7, z7⟩ := skip_ok b6 g8
    obtain ⟨g6, z6⟩ := skip_ok b5 g7
    obtain ⟨g5, z5⟩ := skip_ok b4 g6
    obtain ⟨g4, z4⟩ := skip_ok b3 g5
    obtain ⟨g3, z3⟩ := skip_ok b2 g4
    obtain ⟨g2, z2⟩ := skip_ok b1 g3
    obtain ⟨g1, z1⟩ := skip_ok hB g2
    have ef : first P = ⟨((P.num 1 : Nat) : Int), (((P.skip 1).num 1 : Nat) : Int), ((P.skip 1).skip 1).num 4, sgn ((((P.skip 1).skip 1).skip 4).num 8), sgn (((((P.skip 1).skip 1).skip 4).skip 8).num 8), sgn ((((((P.skip 1).skip 1).skip 4).skip 8).skip 8).num 8), ((((((P.skip 1).skip 1).skip 4).skip 8).skip 8).skip 8).num 8, (((((((P.skip 1).skip 1).skip 4).skip 8).skip 8).skip 8).skip 8).num 4, 0, 0, nothing, nothing, 0, 0⟩ := by unfold first; simp only; rw [if_pos hk]
    rw [ef] at hf
    obtain ⟨⟨f1, _⟩, ⟨f2, _⟩, ⟨f3, _⟩⟩ : inQ (sgn _) ∧ inQ (sgn _) ∧ inQ (sgn _) := by
      unfold fits at hf
      simp only at hf
      rw [if_pos (by rw [hk]; rfl)] at hf
      exact hf
    have c1 := sgn_back (num8_lt b3) f1
    have c2 := sgn_back (num8_lt b4) f2
    have c3 := sgn_back (num8_lt b5) f3
    rw [ef, z1, z2, z3, z4, z5, z6, z7, z8]
    clear ef hf f1 f2 f3 z1 z2 z3 z4 z5 z6 z7 z8
    simp only [bytesOf, more, hk, c1, c2, c3]
    simp
  have n1 := hk
  clear hk
  by_cases hk : P.num 1 = 3
  · have eb : behind P = (((((((P.skip 1).skip 1).skip 4).skip 8).skip 8).past).past) := by unfold behind; simp only; rw [if_neg (by omega), if_pos hk]
    rw [eb] at h ⊢
    have b4 := skip_bytes b3 8
    have b5 := skip_bytes b4 8
    have b6 := past_bytes b5
    have b7 := past_bytes b6
    obtain ⟨g7, z7⟩ := past_ok b6 h
    obtain ⟨g6, z6⟩ := past_ok b5 g7
    obtain ⟨g5, z5⟩ := skip_ok b4 g6
    obtain ⟨g4, z4⟩ := skip_ok b3 g5
    obtain ⟨g3, z3⟩ := skip_ok b2 g4
    obtain ⟨g2, z2⟩ := skip_ok b1 g3
    obtain ⟨g1, z1⟩ := skip_ok hB g2
    have ef : first P = ⟨((P.num 1 : Nat) : Int), (((P.skip 1).num 1 : Nat) : Int), ((P.skip 1).skip 1).num 4, 0, 0, 0, 0, 0, 0, 0, (((((P.skip 1).skip 1).skip 4).skip 8).skip 8).txt, ((((((P.skip 1).skip 1).skip 4).skip 8).skip 8).past).txt, (((P.skip 1).skip 1).skip 4).num 8, ((((P.skip 1).skip 1).skip 4).skip 8).num 8⟩ := by unfold first; simp only; rw [if_neg (by omega), if_pos hk]
    rw [ef, z1, z2, z3, z4, z5, z6, z7]
    clear ef hf z1 z2 z3 z4 z5 z6 z7
    simp only [bytesOf, more, hk]
    simp
  have n3 := hk
  clear hk
  by_cases hk : P.num 1 = 4
  · have eb : behind P = (((((P.skip 1).skip 1).skip 4).skip 8).past) := by unfold behind; simp only; rw [if_neg (by omega), if_neg (by omega), if_pos hk]
    rw [eb] at h ⊢
    have b4 := skip_bytes b3 8
    have b5 := past_bytes b4
    obtain ⟨g5, z5⟩ := past_ok b4 h
    obtain ⟨g4, z4⟩ := skip_ok b3 g5
    obtain ⟨g3, z3⟩ := skip_ok b2 g4
    obtain ⟨g2, z2⟩ := skip_ok b1 g3
    obtain ⟨g1, z1⟩ := skip_ok hB g2
    have ef : first P = ⟨((P.num 1 : Nat) : Int), (((P.skip 1).num 1 : Nat) : Int), ((P.skip 1).skip 1).num 4, 0, 0, 0, 0, 0, 0, 0, ((((P.skip 1).skip 1).skip 4).skip 8).txt, nothing, (((P.skip 1).skip 1).skip 4).num 8, 0⟩ := by unfold first; simp only; rw [if_neg (by omega), if_neg (by omega), if_pos hk]
    rw [ef, z1, z2, z3, z4, z5]
    clear ef hf z1 z2 z3 z4 z5
    simp only [bytesOf, more, hk]
    simp
  have n4 := hk
  clear hk
  by_cases hk : P.num 1 = 5
  · have eb : behind P = ((((((P.skip 1).skip 1).skip 4).skip 4).skip 1).skip 8) := by unfold behind; simp only; rw [if_neg (by omega), if_neg (by omega), if_neg (by omega), if_pos hk]
    rw [eb] at h ⊢
    have b4 := skip_bytes b3 4
    have b5 := skip_bytes b4 1
    have b6 := skip_bytes b5 8
    obtain ⟨g6, z6⟩ := skip_ok b5 h
    obtain ⟨g5, z5⟩ := skip_ok b4 g6
    obtain ⟨g4, z4⟩ := skip_ok b3 g5
    obtain ⟨g3, z3⟩ := skip_ok b2 g4
    obtain ⟨g2, z2⟩ := skip_ok b1 g3
    obtain ⟨g1, z1⟩ := skip_ok hB g2
    have ef : first P = ⟨((P.num 1 : Nat) : Int), (((P.skip 1).num 1 : Nat) : Int), ((P.skip 1).skip 1).num 4, 0, 0, 0, 0, (((P.skip 1).skip 1).skip 4).num 4, ((((((P.skip 1).skip 1).skip 4).skip 4).num 1 : Nat) : Int), (((((P.skip 1).skip 1).skip 4).skip 4).skip 1).num 8, nothing, nothing, 0, 0⟩ := by unfold first; simp only; rw [if_neg (by omega), if_neg (by omega), if_neg (by omega), if_pos hk]
    rw [ef, z1, z2, z3, z4, z5, z6]
    clear ef hf z1 z2 z3 z4 z5 z6
    simp only [bytesOf, more, hk]
    simp
  have n5 := hk
  clear hk
  by_cases hk : P.num 1 = 6
  · have eb : behind P = ((((P.skip 1).skip 1).skip 4).skip 4) := by unfold behind; simp only; rw [if_neg (by omega), if_neg (by omega), if_neg (by omega), if_neg (by omega), if_pos hk]
    rw [eb] at h ⊢
    have b4 := skip_bytes b3 4
    obtain ⟨g4, z4⟩ := skip_ok b3 h
    obtain ⟨g3, z3⟩ := skip_ok b2 g4
    obtain ⟨g2, z2⟩ := skip_ok b1 g3
    obtain ⟨g1, z1⟩ := skip_ok hB g2
    have ef : first P = ⟨((P.num 1 : Nat) : Int), (((P.skip 1).num 1 : Nat) : Int), ((P.skip 1).skip 1).num 4, 0, 0, 0, 0, (((P.skip 1).skip 1).skip 4).num 4, 0, 0, nothing, nothing, 0, 0⟩ := by unfold first; simp only; rw [if_neg (by omega), if_neg (by omega), if_neg (by omega), if_neg (by omega), if_pos hk]
    rw [ef, z1, z2, z3, z4]
    clear ef hf z1 z2 z3 z4
    simp only [bytesOf, more, hk]
    simp
  have n6 := hk
  clear hk
  have eb : behind P = (((P.skip 1).skip 1).skip 4) := by unfold behind; simp only; rw [if_neg (by omega), if_neg (by omega), if_neg (by omega), if_neg (by omega), if_neg (by omega)]
  rw [eb] at h ⊢
  obtain ⟨g3, z3⟩ := skip_ok b2 h
  obtain ⟨g2, z2⟩ := skip_ok b1 g3
  obtain ⟨g1, z1⟩ := skip_ok hB g2
  have ef : first P = ⟨((P.num 1 : Nat) : Int), (((P.skip 1).num 1 : Nat) : Int), ((P.skip 1).skip 1).num 4, 0, 0, 0, 0, 0, 0, 0, nothing, nothing, 0, 0⟩ := by unfold first; simp only; rw [if_neg (by omega), if_neg (by omega), if_neg (by omega), if_neg (by omega), if_neg (by omega)]
  rw [ef, z1, z2, z3]
  clear ef hf z1 z2 z3
  simp only [bytesOf, more]
  rw [if_neg (by omega), if_neg (by omega), if_neg (by omega), if_neg (by omega), if_neg (by omega)]
  simp
end Go.Proofs.Ytkiagflpjloliaa.Rec
