/- Contracts of pack's reader: New, Number, Text, Left, Short: what they answer, and what bytes are left behind them. -/
import Derived.Test.YtbdbbnpkekcefaaPackText
import Derived.Deep.QuietTactic
import Derived.BigQuiet
namespace Go.Proofs.Ytbdbbnpkekcefaa.Pack
open Go.Proofs.Ytbdbbnpkekcefaa.Mem
open Go.ChangeShapes Go.WideShapes Go.ChangeAt Go.RowKit
set_option linter.unusedVariables false

/- A reader at block p, with bytes of block D: the bytes that are left, and whether it is short. -/
def Rd (w : World) (p D : Nat) (zs : List Int) (short : Bool) : Prop :=
  w.cell? ⟨p, 1, none⟩ = some (.bool short) ∧ w.frozen? ⟨p, 0, none⟩ = false ∧ w.frozen? ⟨p, 1, none⟩ = false ∧ zs.length ≤ 1073741824 ∧ Bytes zs ∧
  ((w.cell? ⟨p, 0, none⟩ = some (.slice none 0 0) ∧ zs = []) ∨
   ∃ off cap, D ≠ p ∧ w.cell? ⟨p, 0, none⟩ = some (.slice (some ⟨D, off, none⟩) zs.length cap) ∧ zs.length ≤ cap ∧ cap ≤ maxLen ∧ Row w (some ⟨D, off, none⟩) zs.length zs)
theorem Rd.but {S : Nat → Prop} {w w' : World} {p D : Nat} {zs : List Int} {short : Bool} (h : Rd w p D zs short) (hb : But S w w') (hp : ¬ S p) (hd : ¬ S D) : Rd w' p D zs short := by
  obtain ⟨h1, h2, h3, h4, h5, h6⟩ := h
  have hlt : p < w.heap.size := World.block_lt_of_cell? w ⟨p, 1, none⟩ h1
  have c0 := hb.cell (p := ⟨p, 0, none⟩) hlt hp
  have c1 := hb.cell (p := ⟨p, 1, none⟩) hlt hp
  refine ⟨c1.trans h1, (hb.frozen (p := ⟨p, 0, none⟩) hlt hp).trans h2, (hb.frozen (p := ⟨p, 1, none⟩) hlt hp).trans h3, h4, h5, ?_⟩
  rcases h6 with ⟨h6, h7⟩ | ⟨off, cap, hbp, hc, hl, hm, hr⟩
  · exact .inl ⟨c0.trans h6, h7⟩
  · exact .inr ⟨off, cap, hbp, c0.trans hc, hl, hm, hr.but hb (fun q hq hn => by injection hq with hq; subst hq; exact hd)⟩
theorem cell_ne {w : World} {a b : Addr} {v u : Value} (h : w.cell? b = some u) (hne : a ≠ b) : (w.setCell a v).cell? b = some u := (World.cell?_setCell_other _ _ _ _ hne).trans h
theorem row_setCell {w : World} {x : Option Addr} {len : Nat} {zs : List Int} (h : Row w x len zs) {p : Addr} (v : Value) (hp : ∀ q, x = some q → 0 < len → q.block ≠ p.block) : Row (w.setCell p v) x len zs :=
  h.but (S := fun k => k = p.block) ((But.refl (fun k => k = p.block) w).setCell (p := p) rfl v) (fun q hq hn => hp q hq hn)

theorem rd_short {w : World} {p D : Nat} {u0 u1 : Value} (h0 : w.cell? ⟨p, 0, none⟩ = some u0) (h1 : w.cell? ⟨p, 1, none⟩ = some u1) (h2 : w.frozen? ⟨p, 0, none⟩ = false) (h3 : w.frozen? ⟨p, 1, none⟩ = false) :
    Rd ((w.setCell ⟨p, 0, none⟩ (.slice none 0 0)).setCell ⟨p, 1, none⟩ (.bool true)) p D [] true := by
  refine ⟨?_, ?_, ?_, by simp, bytes_nil, .inl ⟨?_, rfl⟩⟩
  · exact World.cell?_setCell_same _ _ _ (cell_ne h1 (by simp))
  · rw [World.frozen?_setCell, World.frozen?_setCell]; exact h2
  · rw [World.frozen?_setCell, World.frozen?_setCell]; exact h3
  · exact cell_ne (World.cell?_setCell_same _ _ _ h0) (by simp)
theorem but_two (w : World) (p i j : Nat) (u v : Value) : But (fun b => b = p) w ((w.setCell ⟨p, i, none⟩ u).setCell ⟨p, j, none⟩ v) :=
  ((But.refl (fun b => b = p) w).setCell (p := ⟨p, i, none⟩) rfl u).setCell (p := ⟨p, j, none⟩) rfl v
theorem but_one (w : World) (p i : Nat) (u : Value) : But (fun b => b = p) w (w.setCell ⟨p, i, none⟩ u) :=
  (But.refl (fun b => b = p) w).setCell (p := ⟨p, i, none⟩) rfl u
theorem rd_taken {w : World} {p : Nat} {zs : List Int} {short : Bool} {b off cap k : Nat} (h0 : w.cell? ⟨p, 0, none⟩ = some (.slice (some ⟨b, off, none⟩) zs.length cap)) (h1 : w.cell? ⟨p, 1, none⟩ = some (.bool short)) (h2 : w.frozen? ⟨p, 0, none⟩ = false) (h3 : w.frozen? ⟨p, 1, none⟩ = false)
    (h4 : zs.length ≤ 1073741824) (h5 : Bytes zs) (hbp : b ≠ p) (hl : zs.length ≤ cap) (hm : cap ≤ maxLen) (hr : Row w (some ⟨b, off, none⟩) zs.length zs) (hk : k ≤ zs.length) (off' : Nat) (ho : k < zs.length → off' = off + k) (len' cap' : Nat) (hlen : len' = zs.length - k) (hc1 : zs.length - k ≤ cap') (hc2 : cap' ≤ maxLen) :
    Rd (w.setCell ⟨p, 0, none⟩ (.slice (some ⟨b, off', none⟩) len' cap')) p b (zs.drop k) short ∧ Row (w.setCell ⟨p, 0, none⟩ (.slice (some ⟨b, off', none⟩) len' cap')) (some ⟨b, off, none⟩) (zs.take k).length (zs.take k) := by
  subst hlen
  have hdl : (zs.drop k).length = zs.length - k := by simp
  have htl : (zs.take k).length = k := by rw [List.length_take]; omega
  have hrow : Row (w.setCell ⟨p, 0, none⟩ (.slice (some ⟨b, off', none⟩) (zs.length - k) cap')) (some ⟨b, off, none⟩) zs.length zs := row_setCell hr _ (fun q hq _ => by injection hq with hq; subst hq; exact hbp)
  refine ⟨⟨cell_ne h1 (by simp), by rw [World.frozen?_setCell]; exact h2, by rw [World.frozen?_setCell]; exact h3, by omega, bytes_drop h5 k, .inr ⟨off', cap', hbp, ?_, by omega, hc2, ?_⟩⟩, ?_⟩
  · rw [hdl]; exact World.cell?_setCell_same _ _ _ h0
  · refine ⟨rfl, bytes_drop h5 k, fun hn => ?_⟩
    rw [hdl] at hn
    obtain ⟨b', o', hq, hlt, hc⟩ := hrow.2.2 (by omega)
    injection hq with hq
    injection hq with hq1 hq2
    subst hq1 hq2
    refine ⟨b, off', rfl, hlt, fun i hi => ?_⟩
    rw [hdl] at hi
    have e := hc (k + i) (by omega)
    rw [← Nat.add_assoc, ← ho (by omega)] at e
    rw [e]
    simp [List.getD, List.getElem?_drop]
  · refine ⟨rfl, bytes_take h5 k, fun hn => ?_⟩
    rw [htl] at hn
    obtain ⟨b', o', hq, hlt, hc⟩ := hrow.2.2 (by omega)
    injection hq with hq
    injection hq with hq1 hq2
    subst hq1 hq2
    refine ⟨b, off, rfl, hlt, fun i hi => ?_⟩
    rw [htl] at hi
    rw [hc i (by omega)]
    simp [List.getD, hi]

set_option maxRecDepth 100000 in
set_option maxHeartbeats 1000000 in
theorem take_short (p : Nat) {D : Nat} (zs : List Int) (short : Bool) (k : Nat) (hk : zs.length < k) (hk2 : k ≤ 65535) (w : World) (h : Rd w p D zs short) :
    Calls Try.prog 62 #[.pointer (some ⟨p, 0, none⟩), .int .i64 (k : Int)] w fun e w' => e = .returned (.slice none 0 0) ∧ Rd w' p D [] true ∧ But (fun b => b = p) w w' := by
  obtain ⟨h1, h2, h3, h4, h5, h6⟩ := h
  rcases h6 with ⟨h6, rfl⟩ | ⟨off, cap, hbp, hc, hl, hm, hr⟩
  · have hk' : 0 < k := by simpa using hk
    go_enter Try.func62, Try.ntmps62
    go_wp2
    go_ret
    exact ⟨rfl, rd_short h6 h1 h2 h3, but_two _ _ _ _ _ _⟩
  · go_enter Try.func62, Try.ntmps62
    go_wp2
    go_ret
    exact ⟨rfl, rd_short hc h1 h2 h3, but_two _ _ _ _ _ _⟩
set_option maxRecDepth 100000 in
set_option maxHeartbeats 1000000 in
theorem take_ok (p : Nat) {D : Nat} (zs : List Int) (short : Bool) (k : Nat) (hk : k ≤ zs.length) (hk2 : k ≤ 65535) (w : World) (h : Rd w p D zs short) :
    Calls Try.prog 62 #[.pointer (some ⟨p, 0, none⟩), .int .i64 (k : Int)] w fun e w' => ∃ a cap, e = .returned (.slice a k cap) ∧ Row w' a k (zs.take k) ∧ Rd w' p D (zs.drop k) short ∧ But (fun b => b = p) w w' := by
  obtain ⟨h1, h2, h3, h4, h5, h6⟩ := h
  rcases h6 with ⟨h6, rfl⟩ | ⟨off, cap, hbp, hc, hl, hm, hr⟩
  · have hk' : k = 0 := by simpa using hk
    subst hk'
    go_enter Try.func62, Try.ntmps62
    go_wp2
    go_ret
    refine ⟨none, 0, rfl, Row.nil, ⟨cell_ne h1 (by simp), by rw [World.frozen?_setCell]; exact h2, by rw [World.frozen?_setCell]; exact h3, by simp, bytes_nil, .inl ⟨World.cell?_setCell_same _ _ _ h6, rfl⟩⟩, but_one _ _ _ _⟩
  · have hm' : cap ≤ 9223372036854775807 := by simpa [maxLen] using hm
    have htl : (zs.take k).length = k := by rw [List.length_take]; omega
    have HTL := Lib.hid htl
    clear htl
    by_cases hck : cap = k
    · go_enter Try.func62, Try.ntmps62
      go_wp2
      go_ret
      obtain ⟨g1, g2⟩ := rd_taken hc h1 h2 h3 h4 h5 hbp hl hm hr hk off (by omega) (zs.length - k) 0 rfl (by omega) (by simp)
      rw [HTL.out] at g2
      exact ⟨_, _, rfl, g2, g1, but_one _ _ _ _⟩
    · go_enter Try.func62, Try.ntmps62
      go_wp2
      go_ret
      obtain ⟨g1, g2⟩ := rd_taken hc h1 h2 h3 h4 h5 hbp hl hm hr hk (off + k) (fun _ => rfl) (zs.length - k) (cap - k) rfl (by omega) (by omega)
      rw [HTL.out] at g2
      exact ⟨_, _, rfl, g2, g1, but_one _ _ _ _⟩

set_option maxRecDepth 100000 in
set_option maxHeartbeats 1000000 in
theorem number_none (p : Nat) (k : Int) (h : k < 1 ∨ 8 < k) (w : World) :
    Calls Try.prog 42 #[.pointer (some ⟨p, 0, none⟩), .int .i64 k] w fun e w' => e = .returned (.int .u64 0) ∧ w = w' := by
  go_enter Try.func42, Try.ntmps42
  go_wp2_with (go_at_call 59; refine (may_no k h _).mono ?_; rintro e w' ⟨rfl, rfl⟩)
  go_ret
  exact ⟨rfl, rfl⟩
theorem or_step {ys : List Int} {j c k : Nat} (hb : Bytes ys) (hl : ys.length = k) (hj : j < k) (hk : k ≤ 8) (hc : c < 256) (hce : ys.getD j 0 = (c : Int)) :
    bits .or .u64 ((num (ys.take j) : Nat) : Int) (IntKind.u64.wrap ((c : Int) * 2 ^ (8 * j))) = ((num (ys.take (j + 1)) : Nat) : Int) := by
  have hp : (2 : Nat) ^ (8 * j) = 256 ^ j := by rw [Nat.pow_mul]
  have h1 : num (ys.take j) < 256 ^ j := by
    have := num_lt (bytes_take hb j)
    rwa [List.length_take, Nat.min_eq_left (by omega)] at this
  have h7 : 256 ^ j * 256 ≤ 256 ^ 8 := by rw [← Nat.pow_succ]; exact pow256_le (by omega)
  have h8 : (256 : Nat) ^ 8 = 18446744073709551616 := by decide
  have h9 : c * 256 ^ j + 256 ^ j ≤ 256 ^ j * 256 := by
    rw [Nat.mul_comm c, ← Nat.mul_succ]
    exact Nat.mul_le_mul_left _ hc
  have e1 : (c : Int) * 2 ^ (8 * j) = ((c * 256 ^ j : Nat) : Int) := by rw [← hp]; simp
  rw [e1, IntKind.wrap_u64]
  have e2 : ((c * 256 ^ j : Nat) : Int) % 18446744073709551616 = ((c * 256 ^ j : Nat) : Int) := by omega
  rw [e2, u64_or_nat _ _ (by omega) (by omega), num_snoc ys j (by omega), hce]
  congr 1
  rw [Nat.or_comm, ← hp, ← Nat.shiftLeft_eq, ← Nat.shiftLeft_add_eq_or_of_lt (by rw [hp]; exact h1), Nat.shiftLeft_eq, Int.toNat_natCast, Nat.mul_comm, Nat.add_comm]
set_option maxRecDepth 100000 in
set_option maxHeartbeats 1000000 in
theorem number_any (p : Nat) {D : Nat} (zs : List Int) (short : Bool) (k : Nat) (hk1 : 1 ≤ k) (hk8 : k ≤ 8) (w : World) (h : Rd w p D zs short) :
    Calls Try.prog 42 #[.pointer (some ⟨p, 0, none⟩), .int .i64 (k : Int)] w fun e w' => e = .returned (.int .u64 ((num (got zs k) : Nat) : Int)) ∧ Rd w' p D (left zs k) (shortBy zs k short) ∧ But (fun b => b = p) w w' := by
  by_cases hk : k ≤ zs.length
  · have e1 : got zs k = zs.take k := if_pos hk
    have e2 : left zs k = zs.drop k := if_pos hk
    have e3 : shortBy zs k short = short := if_pos hk
    rw [e1, e2, e3]
    clear e1 e2 e3
    obtain ⟨ys, hys⟩ : ∃ ys, ys = zs.take k := ⟨_, rfl⟩
    rw [← hys]
    have HY := Lib.hid hys
    clear hys
    go_enter Try.func42, Try.ntmps42
    go_wp2_with (first
      | (go_at_call 59; refine (may_yes k (by omega) (by omega) _).mono ?_; rintro e w' ⟨rfl, rfl⟩)
      | (go_at_call 62; refine (take_ok p zs short k hk (by omega) _ h).mono ?_; rintro e w1 ⟨a, cap, rfl, hrow, hrd, hbut⟩))
    obtain ⟨hrl, hrb, hrc⟩ := hrow
    have HR := Lib.hid hrd
    have HB := Lib.hid hbut
    clear hrd hbut h
    rw [← HY.out] at hrl hrb hrc
    go_loop [5, 6, 7, 15] (fun n _ _ i => ∃ j : Nat, j ≤ k ∧ i = .int .i64 (j : Int) ∧ n = .int .u64 ((num (ys.take j) : Nat) : Int)) (fun _ _ _ i => k - (intOf i).toNat)
    case atStart => exact ⟨0, by omega, rfl, rfl⟩
    case round =>
      obtain ⟨j, hj, rfl, rfl⟩ := hrel
      by_cases hlt : j < k
      · obtain ⟨b, off, rfl, _, hcell⟩ := hrc (by omega)
        have hz := getD_byte hrb (i := j) (by omega)
        obtain ⟨c, hcb, hce⟩ : ∃ c : Nat, c < 256 ∧ ys.getD j 0 = (c : Int) := ⟨(ys.getD j 0).toNat, by omega, by omega⟩
        have hk0 := hcell j hlt
        rw [hce] at hk0
        clear hcell hrc hz
        have HE := Lib.hid (or_step hrb hrl hlt hk8 hcb hce)
        clear hce
        go_wp2
        go_round
        case rel => exact ⟨j + 1, by omega, by go_num, by rw [HE.out]⟩
        case measure => simp [intOf]; omega
      · have hjk : j = k := by omega
        subst hjk
        have hall : ys.take j = ys := List.take_of_length_le (by omega)
        have HA := Lib.hid hall
        clear hall
        go_wp2
        go_ret
        exact ⟨ret_int (by rw [HA.out]), HR.out, HB.out⟩
  · have e1 : got zs k = [] := if_neg hk
    have e2 : left zs k = [] := if_neg hk
    have e3 : shortBy zs k short = true := if_neg hk
    rw [e1, e2, e3]
    clear e1 e2 e3
    go_enter Try.func42, Try.ntmps42
    go_wp2_with (first
      | (go_at_call 59; refine (may_yes k (by omega) (by omega) _).mono ?_; rintro e w' ⟨rfl, rfl⟩)
      | (go_at_call 62; refine (take_short p zs short k (by omega) (by omega) _ h).mono ?_; rintro e w1 ⟨rfl, hrd, hbut⟩))
    refine wp_loop_rounds 1 ?_
    rw [rounds_succ]
    go_wp2
    go_ret
    exact ⟨rfl, hrd, hbut⟩
theorem take_any (p : Nat) {D : Nat} (zs : List Int) (short : Bool) (k : Nat) (hk2 : k ≤ 65535) (w : World) (h : Rd w p D zs short) :
    Calls Try.prog 62 #[.pointer (some ⟨p, 0, none⟩), .int .i64 (k : Int)] w fun e w' => ∃ a n cap, e = .returned (.slice a n cap) ∧ Row w' a n (got zs k) ∧ Rd w' p D (left zs k) (shortBy zs k short) ∧ But (fun b => b = p) w w' := by
  by_cases hk : k ≤ zs.length
  · have e1 : got zs k = zs.take k := if_pos hk
    have e2 : left zs k = zs.drop k := if_pos hk
    have e3 : shortBy zs k short = short := if_pos hk
    rw [e1, e2, e3]
    refine (take_ok p zs short k hk hk2 w h).mono ?_
    rintro e w' ⟨a, cap, rfl, h1, h2, h3⟩
    exact ⟨a, k, cap, rfl, h1, h2, h3⟩
  · have e1 : got zs k = [] := if_neg hk
    have e2 : left zs k = [] := if_neg hk
    have e3 : shortBy zs k short = true := if_neg hk
    rw [e1, e2, e3]
    refine (take_short p zs short k (by omega) hk2 w h).mono ?_
    rintro e w' ⟨rfl, h1, h2⟩
    exact ⟨none, 0, 0, rfl, Row.nil, h1, h2⟩
/- What Text tells, and leaves. -/
def textLen (zs : List Int) : Nat := num (got zs 2)
def textGot (zs : List Int) : List Int := got (left zs 2) (textLen zs)
def textLeft (zs : List Int) : List Int := left (left zs 2) (textLen zs)
def textShort (zs : List Int) (s : Bool) : Bool := shortBy (left zs 2) (textLen zs) (shortBy zs 2 s)
set_option maxRecDepth 100000 in
set_option maxHeartbeats 1000000 in
theorem text_any (p : Nat) {D : Nat} (zs : List Int) (short : Bool) (w : World) (h : Rd w p D zs short) :
    Calls Try.prog 47 #[.pointer (some ⟨p, 0, none⟩)] w fun e w' => e = .returned (.string (strOfNums (textGot zs))) ∧ Rd w' p D (textLeft zs) (textShort zs short) ∧ But (fun b => b = p) w w' := by
  have hN : textLen zs < 65536 := num_got2_lt h.2.2.2.2.1
  have HN := Lib.hid hN
  obtain ⟨N, hNN⟩ : ∃ N, N = num (got zs 2) := ⟨_, rfl⟩
  have hc := number_any p zs short 2 (by omega) (by omega) w h
  rw [← hNN] at hc
  have hN2 : N < 65536 := by rw [hNN]; exact hN
  have HNN := Lib.hid hNN
  clear hNN hN
  go_enter Try.func47, Try.ntmps47
  go_wp2_with (first
    | (go_at_call 42; refine hc.mono ?_; rintro e w1 ⟨rfl, hrd1, hbut1⟩)
    | (go_at_call 62; refine (take_any p (left zs 2) (shortBy zs 2 short) N (by omega) _ hrd1).mono ?_; rintro e w2 ⟨a, n, cap, rfl, hrow, hrd2, hbut2⟩; have hstr := fun dst hd => run_string_row (P := Try.prog) hrow 22 5 dst Try.underlying22 Try.underlying5 hd cap))
  go_ret
  have e1 : textLen zs = N := HNN.out.symm
  rw [textGot, textLeft, textShort, e1]
  exact ⟨rfl, hrd2, hbut1.trans' hbut2⟩

set_option maxRecDepth 100000 in
set_option maxHeartbeats 1000000 in
theorem new_any (a : Option Addr) (len cap : Nat) (zs : List Int) (w : World) (h : Row w a len zs) (hn : a = none → cap = 0) (hl : len ≤ 1073741824) :
    Calls Try.prog 41 #[.slice a len cap] w fun e w' => ∃ p, e = .returned (.pointer (some ⟨p, 0, none⟩)) ∧ w.heap.size ≤ p ∧ ∃ D, Rd w' p D zs false ∧ Below w.heap.size w w' ∧ w.heap.size ≤ D ∧ D ≤ p := by
  obtain ⟨i0, hi0, hz0, hz1, hz2⟩ := info_parts u8_info
  have HN := Lib.hid hn
  clear hn
  obtain rfl : zs.length = len := h.1
  go_enter Try.func41, Try.ntmps41
  go_wp2_with (at_builtin; refine wpList_append_onto rfl (.const (.slice none 0 0)) (.tmp 3) _ rfl w.heap.size 5 i0 _ 1 1 Try.underlying22 hi0 hz0 hz1 hz2 rfl (by omega) (.slice none 0 0) 0 [] rfl (World.ownsRow_nil _ _ _ _) (.slice a zs.length cap) zs.length (cellsOf zs) rfl (h.sees HN.out) (cellsOf_one zs) (by simp only [maxLen]; omega) (by omega) (Nat.le_refl _) ?_; intro v2 w2 ho2 hon2; obtain ⟨a2, c2, rfl, hr2, hlen2, hD⟩ := own_shape (xs := zs) (by simpa using ho2) h.2.1)
  go_ret
  have hbel : Below w.heap.size w w2 := hon2.below (World.ownsRow_nil w w.heap.size 5 1) (Nat.le_refl _)
  have hsz := hbel.size
  have c0 : ∀ o : Obj, o = .cells #[.slice a2 zs.length c2, .bool false] 116 → (w2.alloc o).cell? ⟨w2.heap.size, 0, none⟩ = some (.slice a2 zs.length c2) ∧ (w2.alloc o).cell? ⟨w2.heap.size, 1, none⟩ = some (.bool false) ∧ (w2.alloc o).frozen? ⟨w2.heap.size, 0, none⟩ = false ∧ (w2.alloc o).frozen? ⟨w2.heap.size, 1, none⟩ = false := by
    rintro o rfl
    refine ⟨?_, ?_, ?_, ?_⟩
    · rw [World.cell?_alloc_at _ _ _ _ rfl]; rfl
    · rw [World.cell?_alloc_at _ _ _ _ rfl]; rfl
    · rw [World.frozen?_alloc_at _ _ _ _ rfl]
    · rw [World.frozen?_alloc_at _ _ _ _ rfl]
  obtain ⟨k0, k1, k2, k3⟩ := c0 _ rfl
  rcases hD with ⟨rfl, rfl, h0⟩ | ⟨g, rfl, hg1, hg2, hg3, hg4⟩
  · refine ⟨w2.heap.size, rfl, hsz, w2.heap.size, ⟨k1, k2, k3, by omega, h.2.1, .inl ⟨?_, List.eq_nil_of_length_eq_zero (by omega)⟩⟩, hbel.alloc hsz _, hsz, Nat.le_refl _⟩
    exact k0.trans (by rw [h0])
  · refine ⟨w2.heap.size, rfl, hsz, g, ⟨k1, k2, k3, by omega, h.2.1, .inr ⟨0, c2, by omega, ?_, by omega, hg4, ?_⟩⟩, hbel.alloc hsz _, hg1, by omega⟩
    · exact k0
    · exact hr2.below ((Below.refl _ _).alloc (Nat.le_refl _) _)
end Go.Proofs.Ytbdbbnpkekcefaa.Pack
