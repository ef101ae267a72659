/- Contracts of the document's Used and Find, and of the law's small functions. -/
import Derived.Test.YtiaaadeenbjciaaRefAt
import Derived.Test.YtiaaadeenbjciaaDiskUp
import Derived.Sort.Walk0
namespace Go.Proofs.Ytiaaadeenbjciaa.Disk
open Go.Proofs.Ytiaaadeenbjciaa.Mem
open Go.ChangeShapes Go.WideShapes Go.ChangeAt Go.RowKit
open Go.Proofs (encStr)
set_option linter.unusedVariables false
theorem less_eq (x y : List UInt8) : Op.bytesLess x y = decide (x < y) := bytesLess_eq x y
section
variable {w : World} {rp : Nat} {S : St} {lv : Value} {rs : List (Nm × REnt)} {pl : Bool} {lf kp : Int}
theorem rused_eq (h : RAt w rp S lv rs pl lf kp) : total (fun e : REnt => e.bytes.length) rs = used S := by
  unfold used
  rw [← h.files, total_mapv]; rfl
theorem total_take {α : Type} (f : α → Nat) (l : List (Nm × α)) (k : Nat) (x : Nm × α) (h : l[k]? = some x) : total f (l.take (k + 1)) = total f (l.take k) + f x.2 := by
  unfold total
  have hk : k < l.length := by
    rcases Nat.lt_or_ge k l.length with h8 | h8
    · exact h8
    · rw [List.getElem?_eq_none h8] at h; cases h
  rw [List.take_add_one, h]
  simp
theorem total_take_le {α : Type} (f : α → Nat) : ∀ (l : List (Nm × α)) (k : Nat), total f (l.take k) ≤ total f l
  | [], k => by simp
  | x :: r, 0 => Nat.zero_le _
  | x :: r, k + 1 => by
    have := total_take_le f r k
    unfold total at this ⊢
    simp only [List.take_succ_cons, List.map_cons, List.sum_cons]
    omega
theorem rent_shape {e : REnt} (h : REntAt w e) (hb : Bytes e.bytes) : ∃ a cap, e.v = .slice a e.bytes.length cap ∧ Row w a e.bytes.length e.bytes ∧ e.bytes.length ≤ cap ∧ cap ≤ maxLen ∧ ((a = none ∧ cap = 0 ∧ e.bytes = []) ∨ ∃ b, a = some ⟨b, 0, none⟩) := by
  obtain ⟨a, cap, h1, h2, h3, h4⟩ := own_shape h hb
  refine ⟨a, cap, h1, h2, ?_, ?_, ?_⟩
  · rcases h4 with ⟨_, _, h5⟩ | ⟨_, _, _, _, h5, _⟩ <;> omega
  · rcases h4 with ⟨_, h5, _⟩ | ⟨_, _, _, _, _, h5⟩
    · rw [h5]; exact Nat.zero_le _
    · exact h5
  · rcases h4 with ⟨h5, h6, h7⟩ | ⟨b, h5, _⟩
    · exact .inl ⟨h5, h6, List.eq_nil_of_length_eq_zero h7⟩
    · exact .inr ⟨b, h5⟩
set_option maxRecDepth 100000 in
set_option maxHeartbeats 1000000 in
theorem rused_at (h : RAt w rp S lv rs pl lf kp) (hu : used S ≤ 1000000000) (hn : rs.length ≤ 1000000) :
    Calls Try.prog 34 #[.pointer (some ⟨rp, 0, none⟩)] w fun e w' => e = .returned (.int .i64 (used S : Int)) ∧ w = w' := by
  obtain ⟨a, cap, rfl, hlc, hcm, hcell⟩ := h.shape
  have c1 : w.cell? ⟨rp, 1, none⟩ = some (.slice a rs.length cap) := h.blk.cell 1
  have hue := Lib.hid (rused_eq h)
  have HC := Lib.hid hcell
  have HA := Lib.hid h
  have hn' : (rs.length : Int) ≤ 1000000 := by omega
  have HU := Lib.hid hu
  clear hcell h hcm hlc hu hn
  go_enter Try.func34, Try.ntmps34
  go_wp2
  go_loop [3, 4] (fun n i => ∃ k : Nat, k ≤ rs.length ∧ i = .int .i64 (k : Int) ∧ n = .int .i64 ((total (fun e : REnt => e.bytes.length) (rs.take k) : Nat) : Int)) (fun _ i => rs.length - (intOf i).toNat)
  case atStart => exact ⟨0, by omega, rfl, rfl⟩
  case round =>
    obtain ⟨k, hk, rfl, rfl⟩ := hrel
    have ht := total_take_le (fun e : REnt => e.bytes.length) rs k
    rw [hue.out] at ht
    have ht' : ((total (fun e : REnt => e.bytes.length) (rs.take k) : Nat) : Int) ≤ 1000000000 := by have := HU.out; omega
    by_cases hlt : k < rs.length
    · obtain ⟨x, hx⟩ : ∃ x, rs[k]? = some x := ⟨_, List.getElem?_eq_getElem hlt⟩
      obtain ⟨g, rfl, _, k1, _, _, _⟩ := HC.out k x hx
      have hmem := List.mem_of_getElem? hx
      obtain ⟨b, cb, hv, _⟩ := rent_shape (HA.out.ents x hmem) (HA.out.ent hmem).2
      rw [hv] at k1
      have hst := Lib.hid (total_take (fun e : REnt => e.bytes.length) rs k x hx)
      have hle : ((x.2.bytes.length : Nat) : Int) ≤ 1000000000 := by
        have := total_le_of (f := fun e : REnt => e.bytes.length) (n := x.1) (a := x.2) hmem
        rw [hue.out] at this
        have := HU.out
        simp only at *
        omega
      have i0 : (0 : Int) ≤ (k : Int) := Int.natCast_nonneg _
      have i1 : (k : Int) < (rs.length : Int) := by omega
      obtain ⟨T, hT⟩ : ∃ T, T = total (fun e : REnt => e.bytes.length) (rs.take k) := ⟨_, rfl⟩
      rw [← hT] at ht' hst ⊢
      clear hv hx hmem ht hT
      go_wp2
      go_round
      case rel => exact ⟨k + 1, by omega, by go_num, by rw [hst.out]; go_num⟩
      case measure => simp [intOf]; omega
    · have he : rs.take k = rs := List.take_of_length_le (by omega)
      have HE : Hid (total (fun e : REnt => e.bytes.length) (rs.take k) = used S) := Lib.hid (by rw [he]; exact hue.out)
      clear he ht ht'
      go_wp2
      go_ret
      exact ⟨by rw [← HE.out]; rfl, rfl⟩
set_option maxRecDepth 100000 in
set_option maxHeartbeats 1000000 in
theorem rfind_at (h : RAt w rp S lv rs pl lf kp) (hn : rs.length ≤ 1000000) (s : ByteArray) :
    Calls Try.prog 20 #[.pointer (some ⟨rp, 0, none⟩), .string s] w fun e w' => e = .returned (.tuple #[.int .i64 ((pos s.data.toList rs : Nat) : Int), .bool (look s.data.toList rs).isSome]) ∧ ∃ n, w' = w.drewN n := by
  obtain ⟨a, cap, rfl, hlc, hcm, hcell⟩ := h.shape
  have c1 : w.cell? ⟨rp, 1, none⟩ = some (.slice a rs.length cap) := h.blk.cell 1
  have HC := Lib.hid hcell
  have HP := Lib.hid (pos_le s.data.toList rs)
  have HL := Lib.hid (look_pos (n := s.data.toList) h.riseR)
  have hn' : (rs.length : Int) ≤ 1000000 := by omega
  obtain ⟨P, hP⟩ : ∃ P, P = pos s.data.toList rs := ⟨_, rfl⟩
  obtain ⟨Q, hQ⟩ : ∃ Q, Q = (look s.data.toList rs).isSome := ⟨_, rfl⟩
  rw [← hP, ← hQ]
  have HPP := Lib.hid hP
  have HQQ := Lib.hid hQ
  clear hcell h hcm hlc hn hP hQ
  go_enter Try.func20, Try.ntmps20
  go_wp2
  go_loop [6] (fun i => ∃ k : Nat, k ≤ P ∧ i = .int .i64 (k : Int)) (fun i => P - (intOf i).toNat)
  case atStart => exact ⟨0, by omega, rfl⟩
  case round =>
    obtain ⟨k, hk, rfl⟩ := hrel
    by_cases hlt : k < rs.length
    · obtain ⟨x, hx⟩ : ∃ x, rs[k]? = some x := ⟨_, List.getElem?_eq_getElem hlt⟩
      obtain ⟨g, rfl, k0, _, _, _, _⟩ := HC.out k x hx
      have i0 : (0 : Int) ≤ (k : Int) := Int.natCast_nonneg _
      have i1 : (k : Int) < (rs.length : Int) := by omega
      unfold encStr at k0
      by_cases hkp : k < P
      · have hb : Op.bytesLess x.1 s.toList = true := by
          rw [less_eq, ByteArray.toList_eq]
          simpa using pos_lt (by rw [← HPP.out]; exact hkp) hx
        clear hx
        go_wp2
        go_round
        case rel => exact ⟨k + 1, by omega, by go_num⟩
        case measure => simp [intOf]; omega
      · have hkP : k = P := by omega
        have hx2 : rs[pos s.data.toList rs]? = some x := by rw [← HPP.out, ← hkP]; exact hx
        have hb : Op.bytesLess x.1 s.toList = false := by
          rw [less_eq, ByteArray.toList_eq]
          simpa using pos_at hx2
        have hq : Q = (x.1 == s.toList) := by
          rw [HQQ.out, HL.out, hx2, ByteArray.toList_eq]
          simp only
          by_cases e : x.1 = s.data.toList
          · rw [if_pos e]; simp [e]
          · rw [if_neg e]; simp [e]
        have he : ((k : Int) == (rs.length : Int)) = false := by simp; omega
        have HQ2 := Lib.hid hq
        have HKP := Lib.hid hkP
        clear hx hx2 hq hkP hkp
        go_wp2_with fail
        go_quiet (fail)
        go_wp2
        go_ret2
        exact ⟨by rw [HQ2.out, ← HKP.out]; rfl, _, rfl⟩
    · have hkl : k = rs.length := by have := HP.out; have := HPP.out; omega
      have hPl : P = k := by have := HP.out; have := HPP.out; omega
      have hq : Q = false := by
        rw [HQQ.out, HL.out, ← HPP.out, hPl, hkl, List.getElem?_eq_none (Nat.le_refl _)]; rfl
      have he : ((k : Int) == (rs.length : Int)) = true := by simp; omega
      have hd : decide (k < rs.length) = false := by simpa using hlt
      have HQ2 := Lib.hid hq
      have HPL := Lib.hid hPl
      clear hq hPl hkl hlt
      go_wp2
      go_ret2
      exact ⟨by rw [HQ2.out, HPL.out]; rfl, 0, rfl⟩
end
/- The law's own small functions. -/
def pickOf (c : Int) (n : Int) : Int := (if c < 0 then -(c + 1) else c) % n
theorem pick_any (c : Int) (hc : -9223372036854775808 ≤ c ∧ c ≤ 9223372036854775807) (w : World) :
    Calls Try.prog 8 #[.int .i64 c, .int .i64 10] w fun e w' => e = .returned (.int .i64 (pickOf c 10)) ∧ w = w' := by
  obtain ⟨h1, h2⟩ := hc
  unfold pickOf
  by_cases h : c < 0
  · rw [if_pos h]
    have h3 : -9223372036854775808 ≤ c + 1 ∧ c + 1 ≤ 0 := by omega
    have h4 : 0 ≤ -(c + 1) ∧ -(c + 1) ≤ 9223372036854775807 := by omega
    go_enter Try.func8, Try.ntmps8
    go_wp2
    go_ret
    exact ⟨by show Ending.returned (.int .i64 (-(c + 1).tmod 10)) = _; rw [← Int.neg_tmod, Int.tmod_eq_emod_of_nonneg (by omega)], rfl⟩
  · rw [if_neg h]
    have h3 : 0 ≤ c := by omega
    go_enter Try.func8, Try.ntmps8
    go_wp2
    go_ret
    exact ⟨rfl, rfl⟩
set_option maxRecDepth 100000 in
set_option maxHeartbeats 1000000 in
theorem code_nil (w : World) : Calls Try.prog 21 #[.nilIface] w fun e w' => e = .returned (.int .i64 0) ∧ w = w' := by
  go_enter Try.func21, Try.ntmps21
  go_wp2
  go_ret
  exact ⟨rfl, rfl⟩
set_option maxRecDepth 100000 in
set_option maxHeartbeats 1000000 in
theorem code_some (c : Int) (h1 : 1 ≤ c) (h2 : c ≤ 15) (w : World) : Calls Try.prog 21 #[.iface 52 (.int .i64 c)] w fun e w' => e = .returned (.int .i64 c) ∧ w = w' := by
  have ke := code_eql
  go_enter Try.func21, Try.ntmps21
  go_wp2
  go_loop [3] (fun i => ∃ k : Int, 1 ≤ k ∧ k ≤ c ∧ i = .int .i64 k) (fun i => (16 - intOf i).toNat)
  case atStart => exact ⟨1, by omega, h1, rfl⟩
  case round =>
    obtain ⟨k, hk1, hk2, rfl⟩ := hrel
    have hk3 : k ≤ 15 := by omega
    by_cases hck : c = k
    · have hb : (c == k) = true := by simpa using hck
      have HCK := Lib.hid hck
      clear hck
      go_wp2
      go_ret
      exact ⟨by rw [HCK.out]; rfl, rfl⟩
    · have hb : (c == k) = false := by simpa using hck
      clear hck
      go_wp2
      go_round
      case rel =>
        have : ¬ c = k := by simpa using hb
        exact ⟨k + 1, by omega, by omega, rfl⟩
      case measure => simp [intOf]; omega
theorem code_any (c : Int) (h1 : 0 ≤ c) (h2 : c ≤ 15) (w : World) : Calls Try.prog 21 #[errV c] w fun e w' => e = .returned (.int .i64 c) ∧ w = w' := by
  unfold errV
  by_cases h : c = 0
  · rw [if_pos h, h]; exact code_nil w
  · rw [if_neg h]; exact code_some c (by omega) h2 w
end Go.Proofs.Ytiaaadeenbjciaa.Disk
