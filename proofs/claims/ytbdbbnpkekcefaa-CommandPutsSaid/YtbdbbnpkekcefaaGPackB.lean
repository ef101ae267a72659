/- In one text: Contracts of pack's reader: New, Number, Text, Left, Short: what they answer, and what bytes are left behind them. Contracts of the reference's reader: they answer as the reader of layer 2 does. The reference's Text answers as the reader's of layer 2 does. Words on layer 2's readers that the layers above it use. (These stand in PackUp, PackPuts, PackBack and PackReads too: import those or this.) -/
import Derived.Test.YtbdbbnpkekcefaaGPackA
import Derived.Deep.QuietTactic
import Derived.BigQuiet
namespace Go.Proofs.Ytbdbbnpkekcefaa.Pack
open Go.Proofs.Ytbdbbnpkekcefaa.Mem
open Go.ChangeShapes Go.WideShapes Go.ChangeAt Go.RowKit
set_option linter.unusedVariables false

/- A reader at block p, with bytes of block D: the bytes that are left, and whether it is short. -/
def Rd (w : World) (p D : Nat) (zs : List Int) (short : Bool) : Prop :=
  w.cell? ⟨p, 1, none⟩ = some (.bool short) ∧ w.frozen? ⟨p, 0, none⟩ = false ∧ w.frozen? ⟨p, 1, none⟩ = false ∧ zs.length ≤ 1073741824 ∧ Bytes zs ∧
  ((w.cell? ⟨p, 0, none⟩ = some (.slice none 0 0) ∧ zs = []) ∨
   ∃ off cap, D ≠ p ∧ w.cell? ⟨p, 0, none⟩ = some (.slice (some ⟨D, off, none⟩) zs.length cap) ∧ zs.length ≤ cap ∧ cap ≤ maxLen ∧ Row w (some ⟨D, off, none⟩) zs.length zs)
theorem Rd.but {S : Nat → Prop} {w w' : World} {p D : Nat} {zs : List Int} {short : Bool} (h : Rd w p D zs short) (hb : But S w w') (hp : ¬ S p) (hd : ¬ S D) : Rd w' p D zs short := by
  obtain ⟨h1, h2, h3, h4, h5, h6⟩ := h
  have hlt : p < w.heap.size := World.block_lt_of_cell? w ⟨p, 1, none⟩ h1
  have c0 := hb.cell (p := ⟨p, 0, none⟩) hlt hp
  have c1 := hb.cell (p := ⟨p, 1, none⟩) hlt hp
  refine ⟨c1.trans h1, (hb.frozen (p := ⟨p, 0, none⟩) hlt hp).trans h2, (hb.frozen (p := ⟨p, 1, none⟩) hlt hp).trans h3, h4, h5, ?_⟩
  rcases h6 with ⟨h6, h7⟩ | ⟨off, cap, hbp, hc, hl, hm, hr⟩
  · exact .inl ⟨c0.trans h6, h7⟩
  · exact .inr ⟨off, cap, hbp, c0.trans hc, hl, hm, hr.but hb (fun q hq hn => by injection hq with hq; subst hq; exact hd)⟩
theorem cell_ne {w : World} {a b : Addr} {v u : Value} (h : w.cell? b = some u) (hne : a ≠ b) : (w.setCell a v).cell? b = some u := (World.cell?_setCell_other _ _ _ _ hne).trans h
theorem row_setCell {w : World} {x : Option Addr} {len : Nat} {zs : List Int} (h : Row w x len zs) {p : Addr} (v : Value) (hp : ∀ q, x = some q → 0 < len → q.block ≠ p.block) : Row (w.setCell p v) x len zs :=
  h.but (S := fun k => k = p.block) ((But.refl (fun k => k = p.block) w).setCell (p := p) rfl v) (fun q hq hn => hp q hq hn)

theorem rd_short {w : World} {p D : Nat} {u0 u1 : Value} (h0 : w.cell? ⟨p, 0, none⟩ = some u0) (h1 : w.cell? ⟨p, 1, none⟩ = some u1) (h2 : w.frozen? ⟨p, 0, none⟩ = false) (h3 : w.frozen? ⟨p, 1, none⟩ = false) :
    Rd ((w.setCell ⟨p, 0, none⟩ (.slice none 0 0)).setCell ⟨p, 1, none⟩ (.bool true)) p D [] true := by
  refine ⟨?_, ?_, ?_, by simp, bytes_nil, .inl ⟨?_, rfl⟩⟩
  · exact World.cell?_setCell_same _ _ _ (cell_ne h1 (by simp))
  · rw [World.frozen?_setCell, World.frozen?_setCell]; exact h2
  · rw [World.frozen?_setCell, World.frozen?_setCell]; exact h3
  · exact cell_ne (World.cell?_setCell_same _ _ _ h0) (by simp)
theorem but_two (w : World) (p i j : Nat) (u v : Value) : But (fun b => b = p) w ((w.setCell ⟨p, i, none⟩ u).setCell ⟨p, j, none⟩ v) :=
  ((But.refl (fun b => b = p) w).setCell (p := ⟨p, i, none⟩) rfl u).setCell (p := ⟨p, j, none⟩) rfl v
theorem but_one (w : World) (p i : Nat) (u : Value) : But (fun b => b = p) w (w.setCell ⟨p, i, none⟩ u) :=
  (But.refl (fun b => b = p) w).setCell (p := ⟨p, i, none⟩) rfl u
theorem rd_taken {w : World} {p : Nat} {zs : List Int} {short : Bool} {b off cap k : Nat} (h0 : w.cell? ⟨p, 0, none⟩ = some (.slice (some ⟨b, off, none⟩) zs.length cap)) (h1 : w.cell? ⟨p, 1, none⟩ = some (.bool short)) (h2 : w.frozen? ⟨p, 0, none⟩ = false) (h3 : w.frozen? ⟨p, 1, none⟩ = false)
    (h4 : zs.length ≤ 1073741824) (h5 : Bytes zs) (hbp : b ≠ p) (hl : zs.length ≤ cap) (hm : cap ≤ maxLen) (hr : Row w (some ⟨b, off, none⟩) zs.length zs) (hk : k ≤ zs.length) (off' : Nat) (ho : k < zs.length → off' = off + k) (len' cap' : Nat) (hlen : len' = zs.length - k) (hc1 : zs.length - k ≤ cap') (hc2 : cap' ≤ maxLen) :
    Rd (w.setCell ⟨p, 0, none⟩ (.slice (some ⟨b, off', none⟩) len' cap')) p b (zs.drop k) short ∧ Row (w.setCell ⟨p, 0, none⟩ (.slice (some ⟨b, off', none⟩) len' cap')) (some ⟨b, off, none⟩) (zs.take k).length (zs.take k) := by
  subst hlen
  have hdl : (zs.drop k).length = zs.length - k := by simp
  have htl : (zs.take k).length = k := by rw [List.length_take]; omega
  have hrow : Row (w.setCell ⟨p, 0, none⟩ (.slice (some ⟨b, off', none⟩) (zs.length - k) cap')) (some ⟨b, off, none⟩) zs.length zs := row_setCell hr _ (fun q hq _ => by injection hq with hq; subst hq; exact hbp)
  refine ⟨⟨cell_ne h1 (by simp), by rw [World.frozen?_setCell]; exact h2, by rw [World.frozen?_setCell]; exact h3, by omega, bytes_drop h5 k, .inr ⟨off', cap', hbp, ?_, by omega, hc2, ?_⟩⟩, ?_⟩
  · rw [hdl]; exact World.cell?_setCell_same _ _ _ h0
  · refine ⟨rfl, bytes_drop h5 k, fun hn => ?_⟩
    rw [hdl] at hn
    obtain ⟨b', o', hq, hlt, hc⟩ := hrow.2.2 (by omega)
    injection hq with hq
    injection hq with hq1 hq2
    subst hq1 hq2
    refine ⟨b, off', rfl, hlt, fun i hi => ?_⟩
    rw [hdl] at hi
    have e := hc (k + i) (by omega)
    rw [← Nat.add_assoc, ← ho (by omega)] at e
    rw [e]
    simp [List.getD, List.getElem?_drop]
  · refine ⟨rfl, bytes_take h5 k, fun hn => ?_⟩
    rw [htl] at hn
    obtain ⟨b', o', hq, hlt, hc⟩ := hrow.2.2 (by omega)
    injection hq with hq
    injection hq with hq1 hq2
    subst hq1 hq2
    refine ⟨b, off, rfl, hlt, fun i hi => ?_⟩
    rw [htl] at hi
    rw [hc i (by omega)]
    simp [List.getD, hi]

set_option maxRecDepth 100000 in
set_option maxHeartbeats 1000000 in
theorem take_short (p : Nat) {D : Nat} (zs : List Int) (short : Bool) (k : Nat) (hk : zs.length < k) (hk2 : k ≤ 65535) (w : World) (h : Rd w p D zs short) :
    Calls Try.prog 62 #[.pointer (some ⟨p, 0, none⟩), .int .i64 (k : Int)] w fun e w' => e = .returned (.slice none 0 0) ∧ Rd w' p D [] true ∧ But (fun b => b = p) w w' := by
  obtain ⟨h1, h2, h3, h4, h5, h6⟩ := h
  rcases h6 with ⟨h6, rfl⟩ | ⟨off, cap, hbp, hc, hl, hm, hr⟩
  · have hk' : 0 < k := by simpa using hk
    go_enter Try.func62, Try.ntmps62
    go_wp2
    go_ret
    exact ⟨rfl, rd_short h6 h1 h2 h3, but_two _ _ _ _ _ _⟩
  · go_enter Try.func62, Try.ntmps62
    go_wp2
    go_ret
    exact ⟨rfl, rd_short hc h1 h2 h3, but_two _ _ _ _ _ _⟩
set_option maxRecDepth 100000 in
set_option maxHeartbeats 1000000 in
theorem take_ok (p : Nat) {D : Nat} (zs : List Int) (short : Bool) (k : Nat) (hk : k ≤ zs.length) (hk2 : k ≤ 65535) (w : World) (h : Rd w p D zs short) :
    Calls Try.prog 62 #[.pointer (some ⟨p, 0, none⟩), .int .i64 (k : Int)] w fun e w' => ∃ a cap, e = .returned (.slice a k cap) ∧ Row w' a k (zs.take k) ∧ Rd w' p D (zs.drop k) short ∧ But (fun b => b = p) w w' := by
  obtain ⟨h1, h2, h3, h4, h5, h6⟩ := h
  rcases h6 with ⟨h6, rfl⟩ | ⟨off, cap, hbp, hc, hl, hm, hr⟩
  · have hk' : k = 0 := by simpa using hk
    subst hk'
    go_enter Try.func62, Try.ntmps62
    go_wp2
    go_ret
    refine ⟨none, 0, rfl, Row.nil, ⟨cell_ne h1 (by simp), by rw [World.frozen?_setCell]; exact h2, by rw [World.frozen?_setCell]; exact h3, by simp, bytes_nil, .inl ⟨World.cell?_setCell_same _ _ _ h6, rfl⟩⟩, but_one _ _ _ _⟩
  · have hm' : cap ≤ 9223372036854775807 := by simpa [maxLen] using hm
    have htl : (zs.take k).length = k := by rw [List.length_take]; omega
    have HTL := Lib.hid htl
    clear htl
    by_cases hck : cap = k
    · go_enter Try.func62, Try.ntmps62
      go_wp2
      go_ret
      obtain ⟨g1, g2⟩ := rd_taken hc h1 h2 h3 h4 h5 hbp hl hm hr hk off (by omega) (zs.length - k) 0 rfl (by omega) (by simp)
      rw [HTL.out] at g2
      exact ⟨_, _, rfl, g2, g1, but_one _ _ _ _⟩
    · go_enter Try.func62, Try.ntmps62
      go_wp2
      go_ret
      obtain ⟨g1, g2⟩ := rd_taken hc h1 h2 h3 h4 h5 hbp hl hm hr hk (off + k) (fun _ => rfl) (zs.length - k) (cap - k) rfl (by omega) (by omega)
      rw [HTL.out] at g2
      exact ⟨_, _, rfl, g2, g1, but_one _ _ _ _⟩

set_option maxRecDepth 100000 in
set_option maxHeartbeats 1000000 in
theorem number_none (p : Nat) (k : Int) (h : k < 1 ∨ 8 < k) (w : World) :
    Calls Try.prog 42 #[.pointer (some ⟨p, 0, none⟩), .int .i64 k] w fun e w' => e = .returned (.int .u64 0) ∧ w = w' := by
  go_enter Try.func42, Try.ntmps42
  go_wp2_with (go_at_call 59; refine (may_no k h _).mono ?_; rintro e w' ⟨rfl, rfl⟩)
  go_ret
  exact ⟨rfl, rfl⟩
theorem or_step {ys : List Int} {j c k : Nat} (hb : Bytes ys) (hl : ys.length = k) (hj : j < k) (hk : k ≤ 8) (hc : c < 256) (hce : ys.getD j 0 = (c : Int)) :
    bits .or .u64 ((num (ys.take j) : Nat) : Int) (IntKind.u64.wrap ((c : Int) * 2 ^ (8 * j))) = ((num (ys.take (j + 1)) : Nat) : Int) := by
  have hp : (2 : Nat) ^ (8 * j) = 256 ^ j := by rw [Nat.pow_mul]
  have h1 : num (ys.take j) < 256 ^ j := by
    have := num_lt (bytes_take hb j)
    rwa [List.length_take, Nat.min_eq_left (by omega)] at this
  have h7 : 256 ^ j * 256 ≤ 256 ^ 8 := by rw [← Nat.pow_succ]; exact pow256_le (by omega)
  have h8 : (256 : Nat) ^ 8 = 18446744073709551616 := by decide
  have h9 : c * 256 ^ j + 256 ^ j ≤ 256 ^ j * 256 := by
    rw [Nat.mul_comm c, ← Nat.mul_succ]
    exact Nat.mul_le_mul_left _ hc
  have e1 : (c : Int) * 2 ^ (8 * j) = ((c * 256 ^ j : Nat) : Int) := by rw [← hp]; simp
  rw [e1, IntKind.wrap_u64]
  have e2 : ((c * 256 ^ j : Nat) : Int) % 18446744073709551616 = ((c * 256 ^ j : Nat) : Int) := by omega
  rw [e2, u64_or_nat _ _ (by omega) (by omega), num_snoc ys j (by omega), hce]
  congr 1
  rw [Nat.or_comm, ← hp, ← Nat.shiftLeft_eq, ← Nat.shiftLeft_add_eq_or_of_lt (by rw [hp]; exact h1), Nat.shiftLeft_eq, Int.toNat_natCast, Nat.mul_comm, Nat.add_comm]
set_option maxRecDepth 100000 in
set_option maxHeartbeats 1000000 in
theorem number_any (p : Nat) {D : Nat} (zs : List Int) (short : Bool) (k : Nat) (hk1 : 1 ≤ k) (hk8 : k ≤ 8) (w : World) (h : Rd w p D zs short) :
    Calls Try.prog 42 #[.pointer (some ⟨p, 0, none⟩), .int .i64 (k : Int)] w fun e w' => e = .returned (.int .u64 ((num (got zs k) : Nat) : Int)) ∧ Rd w' p D (left zs k) (shortBy zs k short) ∧ But (fun b => b = p) w w' := by
  by_cases hk : k ≤ zs.length
  · have e1 : got zs k = zs.take k := if_pos hk
    have e2 : left zs k = zs.drop k := if_pos hk
    have e3 : shortBy zs k short = short := if_pos hk
    rw [e1, e2, e3]
    clear e1 e2 e3
    obtain ⟨ys, hys⟩ : ∃ ys, ys = zs.take k := ⟨_, rfl⟩
    rw [← hys]
    have HY := Lib.hid hys
    clear hys
    go_enter Try.func42, Try.ntmps42
    go_wp2_with (first
      | (go_at_call 59; refine (may_yes k (by omega) (by omega) _).mono ?_; rintro e w' ⟨rfl, rfl⟩)
      | (go_at_call 62; refine (take_ok p zs short k hk (by omega) _ h).mono ?_; rintro e w1 ⟨a, cap, rfl, hrow, hrd, hbut⟩))
    obtain ⟨hrl, hrb, hrc⟩ := hrow
    have HR := Lib.hid hrd
    have HB := Lib.hid hbut
    clear hrd hbut h
    rw [← HY.out] at hrl hrb hrc
    go_loop [5, 6, 7, 15] (fun n _ _ i => ∃ j : Nat, j ≤ k ∧ i = .int .i64 (j : Int) ∧ n = .int .u64 ((num (ys.take j) : Nat) : Int)) (fun _ _ _ i => k - (intOf i).toNat)
    case atStart => exact ⟨0, by omega, rfl, rfl⟩
    case round =>
      obtain ⟨j, hj, rfl, rfl⟩ := hrel
      by_cases hlt : j < k
      · obtain ⟨b, off, rfl, _, hcell⟩ := hrc (by omega)
        have hz := getD_byte hrb (i := j) (by omega)
        obtain ⟨c, hcb, hce⟩ : ∃ c : Nat, c < 256 ∧ ys.getD j 0 = (c : Int) := ⟨(ys.getD j 0).toNat, by omega, by omega⟩
        have hk0 := hcell j hlt
        rw [hce] at hk0
        clear hcell hrc hz
        have HE := Lib.hid (or_step hrb hrl hlt hk8 hcb hce)
        clear hce
        go_wp2
        go_round
        case rel => exact ⟨j + 1, by omega, by go_num, by rw [HE.out]⟩
        case measure => simp [intOf]; omega
      · have hjk : j = k := by omega
        subst hjk
        have hall : ys.take j = ys := List.take_of_length_le (by omega)
        have HA := Lib.hid hall
        clear hall
        go_wp2
        go_ret
        exact ⟨ret_int (by rw [HA.out]), HR.out, HB.out⟩
  · have e1 : got zs k = [] := if_neg hk
    have e2 : left zs k = [] := if_neg hk
    have e3 : shortBy zs k short = true := if_neg hk
    rw [e1, e2, e3]
    clear e1 e2 e3
    go_enter Try.func42, Try.ntmps42
    go_wp2_with (first
      | (go_at_call 59; refine (may_yes k (by omega) (by omega) _).mono ?_; rintro e w' ⟨rfl, rfl⟩)
      | (go_at_call 62; refine (take_short p zs short k (by omega) (by omega) _ h).mono ?_; rintro e w1 ⟨rfl, hrd, hbut⟩))
    refine wp_loop_rounds 1 ?_
    rw [rounds_succ]
    go_wp2
    go_ret
    exact ⟨rfl, hrd, hbut⟩
theorem take_any (p : Nat) {D : Nat} (zs : List Int) (short : Bool) (k : Nat) (hk2 : k ≤ 65535) (w : World) (h : Rd w p D zs short) :
    Calls Try.prog 62 #[.pointer (some ⟨p, 0, none⟩), .int .i64 (k : Int)] w fun e w' => ∃ a n cap, e = .returned (.slice a n cap) ∧ Row w' a n (got zs k) ∧ Rd w' p D (left zs k) (shortBy zs k short) ∧ But (fun b => b = p) w w' := by
  by_cases hk : k ≤ zs.length
  · have e1 : got zs k = zs.take k := if_pos hk
    have e2 : left zs k = zs.drop k := if_pos hk
    have e3 : shortBy zs k short = short := if_pos hk
    rw [e1, e2, e3]
    refine (take_ok p zs short k hk hk2 w h).mono ?_
    rintro e w' ⟨a, cap, rfl, h1, h2, h3⟩
    exact ⟨a, k, cap, rfl, h1, h2, h3⟩
  · have e1 : got zs k = [] := if_neg hk
    have e2 : left zs k = [] := if_neg hk
    have e3 : shortBy zs k short = true := if_neg hk
    rw [e1, e2, e3]
    refine (take_short p zs short k (by omega) hk2 w h).mono ?_
    rintro e w' ⟨rfl, h1, h2⟩
    exact ⟨none, 0, 0, rfl, Row.nil, h1, h2⟩
/- What Text tells, and leaves. -/
def textLen (zs : List Int) : Nat := num (got zs 2)
def textGot (zs : List Int) : List Int := got (left zs 2) (textLen zs)
def textLeft (zs : List Int) : List Int := left (left zs 2) (textLen zs)
def textShort (zs : List Int) (s : Bool) : Bool := shortBy (left zs 2) (textLen zs) (shortBy zs 2 s)
set_option maxRecDepth 100000 in
set_option maxHeartbeats 1000000 in
theorem text_any (p : Nat) {D : Nat} (zs : List Int) (short : Bool) (w : World) (h : Rd w p D zs short) :
    Calls Try.prog 47 #[.pointer (some ⟨p, 0, none⟩)] w fun e w' => e = .returned (.string (strOfNums (textGot zs))) ∧ Rd w' p D (textLeft zs) (textShort zs short) ∧ But (fun b => b = p) w w' := by
  have hN : textLen zs < 65536 := num_got2_lt h.2.2.2.2.1
  have HN := Lib.hid hN
  obtain ⟨N, hNN⟩ : ∃ N, N = num (got zs 2) := ⟨_, rfl⟩
  have hc := number_any p zs short 2 (by omega) (by omega) w h
  rw [← hNN] at hc
  have hN2 : N < 65536 := by rw [hNN]; exact hN
  have HNN := Lib.hid hNN
  clear hNN hN
  go_enter Try.func47, Try.ntmps47
  go_wp2_with (first
    | (go_at_call 42; refine hc.mono ?_; rintro e w1 ⟨rfl, hrd1, hbut1⟩)
    | (go_at_call 62; refine (take_any p (left zs 2) (shortBy zs 2 short) N (by omega) _ hrd1).mono ?_; rintro e w2 ⟨a, n, cap, rfl, hrow, hrd2, hbut2⟩; have hstr := fun dst hd => run_string_row (P := Try.prog) hrow 22 5 dst Try.underlying22 Try.underlying5 hd cap))
  go_ret
  have e1 : textLen zs = N := HNN.out.symm
  rw [textGot, textLeft, textShort, e1]
  exact ⟨rfl, hrd2, hbut1.trans' hbut2⟩

set_option maxRecDepth 100000 in
set_option maxHeartbeats 1000000 in
theorem new_any (a : Option Addr) (len cap : Nat) (zs : List Int) (w : World) (h : Row w a len zs) (hn : a = none → cap = 0) (hl : len ≤ 1073741824) :
    Calls Try.prog 41 #[.slice a len cap] w fun e w' => ∃ p, e = .returned (.pointer (some ⟨p, 0, none⟩)) ∧ w.heap.size ≤ p ∧ ∃ D, Rd w' p D zs false ∧ Below w.heap.size w w' ∧ w.heap.size ≤ D ∧ D ≤ p := by
  obtain ⟨i0, hi0, hz0, hz1, hz2⟩ := info_parts u8_info
  have HN := Lib.hid hn
  clear hn
  obtain rfl : zs.length = len := h.1
  go_enter Try.func41, Try.ntmps41
  go_wp2_with (at_builtin; refine wpList_append_onto rfl (.const (.slice none 0 0)) (.tmp 3) _ rfl w.heap.size 5 i0 _ 1 1 Try.underlying22 hi0 hz0 hz1 hz2 rfl (by omega) (.slice none 0 0) 0 [] rfl (World.ownsRow_nil _ _ _ _) (.slice a zs.length cap) zs.length (cellsOf zs) rfl (h.sees HN.out) (cellsOf_one zs) (by simp only [maxLen]; omega) (by omega) (Nat.le_refl _) ?_; intro v2 w2 ho2 hon2; obtain ⟨a2, c2, rfl, hr2, hlen2, hD⟩ := own_shape (xs := zs) (by simpa using ho2) h.2.1)
  go_ret
  have hbel : Below w.heap.size w w2 := hon2.below (World.ownsRow_nil w w.heap.size 5 1) (Nat.le_refl _)
  have hsz := hbel.size
  have c0 : ∀ o : Obj, o = .cells #[.slice a2 zs.length c2, .bool false] 116 → (w2.alloc o).cell? ⟨w2.heap.size, 0, none⟩ = some (.slice a2 zs.length c2) ∧ (w2.alloc o).cell? ⟨w2.heap.size, 1, none⟩ = some (.bool false) ∧ (w2.alloc o).frozen? ⟨w2.heap.size, 0, none⟩ = false ∧ (w2.alloc o).frozen? ⟨w2.heap.size, 1, none⟩ = false := by
    rintro o rfl
    refine ⟨?_, ?_, ?_, ?_⟩
    · rw [World.cell?_alloc_at _ _ _ _ rfl]; rfl
    · rw [World.cell?_alloc_at _ _ _ _ rfl]; rfl
    · rw [World.frozen?_alloc_at _ _ _ _ rfl]
    · rw [World.frozen?_alloc_at _ _ _ _ rfl]
  obtain ⟨k0, k1, k2, k3⟩ := c0 _ rfl
  rcases hD with ⟨rfl, rfl, h0⟩ | ⟨g, rfl, hg1, hg2, hg3, hg4⟩
  · refine ⟨w2.heap.size, rfl, hsz, w2.heap.size, ⟨k1, k2, k3, by omega, h.2.1, .inl ⟨?_, List.eq_nil_of_length_eq_zero (by omega)⟩⟩, hbel.alloc hsz _, hsz, Nat.le_refl _⟩
    exact k0.trans (by rw [h0])
  · refine ⟨w2.heap.size, rfl, hsz, g, ⟨k1, k2, k3, by omega, h.2.1, .inr ⟨0, c2, by omega, ?_, by omega, hg4, ?_⟩⟩, hbel.alloc hsz _, hg1, by omega⟩
    · exact k0
    · exact hr2.below ((Below.refl _ _).alloc (Nat.le_refl _) _)
end Go.Proofs.Ytbdbbnpkekcefaa.Pack
namespace Go.Proofs.Ytbdbbnpkekcefaa.Pack
open Go.Proofs.Ytbdbbnpkekcefaa.Mem
open Go.ChangeShapes Go.WideShapes Go.ChangeAt Go.RowKit
set_option linter.unusedVariables false

/- The reference's reader at block q, with the bytes that are left. -/
def Rf (w : World) (q bd : Nat) (zs : List Int) (short : Bool) : Prop :=
  ∃ (B : List Int) (at' : Nat) (a : Option Addr) (cap : Nat), w.cell? ⟨q, 0, none⟩ = some (.slice a B.length cap) ∧ w.cell? ⟨q, 1, none⟩ = some (.int .i64 (at' : Int)) ∧ w.cell? ⟨q, 2, none⟩ = some (.bool short) ∧
    w.frozen? ⟨q, 1, none⟩ = false ∧ w.frozen? ⟨q, 2, none⟩ = false ∧ Row w a B.length B ∧ B.length ≤ cap ∧ cap ≤ maxLen ∧ B.length ≤ 1073741824 ∧ at' ≤ B.length ∧ (∀ p, a = some p → 0 < B.length → p.block ≠ q ∧ p.block < bd) ∧
    (a = none → cap = 0) ∧ ((short = true ∧ zs = []) ∨ (short = false ∧ zs = B.drop at'))

set_option maxRecDepth 100000 in
set_option maxHeartbeats 1000000 in
theorem refNumber_none (q : Nat) (k : Int) (h : k < 1 ∨ 8 < k) (w : World) :
    Calls Try.prog 24 #[.pointer (some ⟨q, 0, none⟩), .int .i64 k] w fun e w' => e = .returned (.int .u64 0) ∧ w = w' := by
  by_cases h1 : k < 1
  · go_enter Try.func24, Try.ntmps24
    go_wp2
    go_ret
    exact ⟨rfl, rfl⟩
  · have h8 : 8 < k := by omega
    go_enter Try.func24, Try.ntmps24
    go_wp2
    go_ret
    exact ⟨rfl, rfl⟩
theorem num_round {zs : List Int} {k j : Nat} (hk : k ≤ 8) (hl : zs.length = k) (hb : Bytes zs) (hj : j + 1 ≤ k) : 256 * num (zs.drop (j + 1)) + (zs.getD j 0).toNat = num (zs.drop j) ∧ num (zs.drop j) < 18446744073709551616 := by
  refine ⟨by rw [num_cons zs j (by omega)]; omega, ?_⟩
  have h1 := num_lt (bytes_drop hb j)
  have h2 : 256 ^ (zs.drop j).length ≤ 256 ^ 8 := pow256_le (by simp; omega)
  have h3 : (256 : Nat) ^ 8 = 18446744073709551616 := by decide
  omega
theorem rf_step {w : World} {q bd : Nat} {B : List Int} {at1 at' : Nat} {a : Option Addr} {cap : Nat} (m : Nat) (h0 : w.cell? ⟨q, 0, none⟩ = some (.slice a B.length cap)) (h1 : w.cell? ⟨q, 1, none⟩ = some (.int .i64 (at1 : Int))) (h2 : w.cell? ⟨q, 2, none⟩ = some (.bool false))
    (f1 : w.frozen? ⟨q, 1, none⟩ = false) (f2 : w.frozen? ⟨q, 2, none⟩ = false) (hr : Row w a B.length B) (hlc : B.length ≤ cap) (hcm : cap ≤ maxLen) (hB : B.length ≤ 1073741824) (hat : at' ≤ B.length) (hne : ∀ p, a = some p → 0 < B.length → p.block ≠ q ∧ p.block < bd) (hnil : a = none → cap = 0) :
    Rf ((w.drewN m).setCell ⟨q, 1, none⟩ (.int .i64 (at' : Int))) q bd (B.drop at') false := by
  have hd : Row (w.drewN m) a B.length B := hr.but (S := fun _ => False) ((But.refl _ w).drewN m) (fun _ _ _ h => h)
  exact ⟨B, at', a, cap, cell_ne (w := w.drewN m) h0 (by simp), World.cell?_setCell_same (w.drewN m) _ _ h1, cell_ne (w := w.drewN m) h2 (by simp), by rw [World.frozen?_setCell]; exact f1, by rw [World.frozen?_setCell]; exact f2,
    row_setCell hd _ (fun p hp hn => (hne p hp hn).1), hlc, hcm, hB, hat, hne, hnil, .inr ⟨rfl, rfl⟩⟩
theorem rf_short {w : World} {q bd : Nat} {B : List Int} {at' : Nat} {a : Option Addr} {cap : Nat} {u : Value} (m : Nat) (h0 : w.cell? ⟨q, 0, none⟩ = some (.slice a B.length cap)) (h1 : w.cell? ⟨q, 1, none⟩ = some (.int .i64 (at' : Int))) (h2 : w.cell? ⟨q, 2, none⟩ = some u)
    (f1 : w.frozen? ⟨q, 1, none⟩ = false) (f2 : w.frozen? ⟨q, 2, none⟩ = false) (hr : Row w a B.length B) (hlc : B.length ≤ cap) (hcm : cap ≤ maxLen) (hB : B.length ≤ 1073741824) (hat : at' ≤ B.length) (hne : ∀ p, a = some p → 0 < B.length → p.block ≠ q ∧ p.block < bd) (hnil : a = none → cap = 0) :
    Rf ((w.drewN m).setCell ⟨q, 2, none⟩ (.bool true)) q bd [] true := by
  have hd : Row (w.drewN m) a B.length B := hr.but (S := fun _ => False) ((But.refl _ w).drewN m) (fun _ _ _ h => h)
  exact ⟨B, at', a, cap, cell_ne (w := w.drewN m) h0 (by simp), cell_ne (w := w.drewN m) h1 (by simp), World.cell?_setCell_same (w.drewN m) _ _ h2, by rw [World.frozen?_setCell]; exact f1, by rw [World.frozen?_setCell]; exact f2,
    row_setCell hd _ (fun p hp hn => (hne p hp hn).1), hlc, hcm, hB, hat, hne, hnil, .inl ⟨rfl, rfl⟩⟩
set_option maxRecDepth 100000 in
set_option maxHeartbeats 1000000 in
theorem refNumber_any (q : Nat) {bd : Nat} (zs : List Int) (short : Bool) (k : Nat) (hk1 : 1 ≤ k) (hk8 : k ≤ 8) (w : World) (h : Rf w q bd zs short) :
    Calls Try.prog 24 #[.pointer (some ⟨q, 0, none⟩), .int .i64 (k : Int)] w fun e w' => e = .returned (.int .u64 ((num (got zs k) : Nat) : Int)) ∧ Rf w' q bd (left zs k) (shortBy zs k short) ∧ But (fun b => b = q) w w' := by
  obtain ⟨B, at', a, cap, h0, h1, h2, f1, f2, hr, hlc, hcm, hB, hat, hne, hnil, hz⟩ := h
  rcases hz with ⟨rfl, rfl⟩ | ⟨rfl, rfl⟩
  · have e1 : got [] k = [] := by unfold got; split <;> simp
    have e2 : left [] k = [] := by unfold left; split <;> simp
    have e3 : shortBy [] k true = true := by unfold shortBy; split <;> rfl
    rw [e1, e2, e3]
    clear e1 e2 e3
    have hn1 : ¬ ((k : Int) < 1) := by omega
    have hn8 : ¬ (8 < (k : Int)) := by omega
    go_enter Try.func24, Try.ntmps24
    go_wp2
    go_ret
    exact ⟨rfl, ⟨B, at', a, cap, h0, h1, h2, f1, f2, hr, hlc, hcm, hB, hat, hne, hnil, .inl ⟨rfl, rfl⟩⟩, But.refl _ _⟩
  · have hdl : (B.drop at').length = B.length - at' := by simp
    by_cases hk : k ≤ B.length - at'
    · have e1 : got (B.drop at') k = (B.drop at').take k := if_pos (by omega)
      have e2 : left (B.drop at') k = B.drop (at' + k) := by rw [left, if_pos (by omega), List.drop_drop]
      have e3 : shortBy (B.drop at') k false = false := if_pos (by omega)
      rw [e1, e2, e3]
      clear e1 e2 e3
      obtain ⟨ys, hys⟩ : ∃ ys, ys = (B.drop at').take k := ⟨_, rfl⟩
      have hyl : ys.length = k := by rw [hys, List.length_take, hdl]; omega
      have hyb : Bytes ys := by rw [hys]; exact bytes_take (bytes_drop hr.2.1 _) _
      have hyg : ∀ i, i < k → B.getD (at' + i) 0 = ys.getD i 0 := by
        intro i hi
        rw [hys]
        simp [List.getD, hi, List.getElem?_drop]
      rw [← hys]
      clear hys
      obtain ⟨b, off, rfl, hblt, hcell⟩ := hr.2.2 (by omega)
      have HC := Lib.hid hcell
      clear hcell
      go_enter Try.func24, Try.ntmps24
      go_wp2
      go_quiet (fail)
      go_wp2
      go_loopw [5, 6] (fun n i wr => ∃ j m : Nat, j ≤ k ∧ i = .int .i64 ((j : Int) - 1) ∧ n = .int .u64 ((num (ys.drop j) : Nat) : Int) ∧ wr = w.drewN m) (fun _ i _ => (intOf i + 1).toNat)
      case atStart => exact ⟨k, _, by omega, rfl, by rw [List.drop_of_length_le (by omega)]; rfl, rfl⟩
      case round =>
        obtain ⟨j, m, hj, rfl, rfl, rfl⟩ := hrel
        rcases j with _ | j
        · have e0 : ((0 : Nat) : Int) - 1 = -1 := rfl
          rw [e0]
          have hd0 : ys.drop 0 = ys := rfl
          rw [hd0]
          clear hd0 e0
          have HYG := Lib.hid hyg
          clear hyg
          go_wp2
          go_ret
          have e5 : (at' : Int) + (k : Int) = ((at' + k : Nat) : Int) := by omega
          rw [e5]
          refine ⟨rfl, ?_, (((But.refl (fun b => b = q) w).drewN m).setCell (p := ⟨q, 1, none⟩) rfl _)⟩
          exact rf_step _ h0 h1 h2 f1 f2 hr hlc hcm hB (by omega) hne hnil
        · have e0 : (((j + 1 : Nat)) : Int) - 1 = (j : Int) := by omega
          rw [e0]
          clear e0
          obtain ⟨hr1, hr2⟩ := num_round hk8 hyl hyb hj
          have hzb := getD_byte hyb (i := j) (by omega)
          obtain ⟨c, hcb, hce⟩ : ∃ c : Nat, c < 256 ∧ ys.getD j 0 = (c : Int) := ⟨(ys.getD j 0).toNat, by omega, by omega⟩
          rw [hce] at hr1
          have hk0 := HC.out (at' + j) (by omega)
          rw [hyg j (by omega), hce] at hk0
          have HYG := Lib.hid hyg
          have HCE := Lib.hid hce
          clear hyg hce hzb
          obtain ⟨N, hN⟩ : ∃ N, N = num (ys.drop (j + 1)) := ⟨_, rfl⟩
          rw [← hN] at hr1 ⊢
          have HN := Lib.hid hN
          clear hN
          rw [Int.toNat_natCast] at hr1
          have hlt0 : (at' : Int) + (j : Int) < (B.length : Int) := by omega
          have hge0 : (0 : Int) ≤ (at' : Int) + (j : Int) := by omega
          have htn : ((at' : Int) + (j : Int)).toNat = at' + j := by omega
          have HR1 := Lib.hid hr1
          have hr3 : 256 * N + c < 18446744073709551616 := by omega
          clear hr1 hr2
          go_wp2
          go_quiet (fail)
          go_wp2
          go_roundw
          case rel => exact ⟨j, _, by omega, rfl, val_int (by rw [← HR1.out]; omega), rfl⟩
          case measure => simp [intOf]
    · have e1 : got (B.drop at') k = [] := if_neg (by omega)
      have e2 : left (B.drop at') k = [] := if_neg (by omega)
      have e3 : shortBy (B.drop at') k false = true := if_neg (by omega)
      rw [e1, e2, e3]
      clear e1 e2 e3
      go_enter Try.func24, Try.ntmps24
      go_wp2
      go_quiet (fail)
      go_wp2
      go_ret
      exact ⟨rfl, rf_short _ h0 h1 h2 f1 f2 hr hlc hcm hB hat hne hnil, (((But.refl (fun b => b = q) w).drewN _).setCell (p := ⟨q, 2, none⟩) rfl _)⟩
set_option maxRecDepth 100000 in
set_option maxHeartbeats 1000000 in
theorem refLeft_any (q : Nat) {bd : Nat} (zs : List Int) (short : Bool) (w : World) (h : Rf w q bd zs short) :
    Calls Try.prog 30 #[.pointer (some ⟨q, 0, none⟩)] w fun e w' => e = .returned (.int .i64 (zs.length : Int)) ∧ ∃ m, w' = w.drewN m := by
  obtain ⟨B, at', a, cap, h0, h1, h2, f1, f2, hr, hlc, hcm, hB, hat, hne, hnil, hz⟩ := h
  rcases hz with ⟨rfl, rfl⟩ | ⟨rfl, rfl⟩
  · go_enter Try.func30, Try.ntmps30
    go_wp2
    go_ret
    exact ⟨rfl, 0, rfl⟩
  · have hdl : (B.drop at').length = B.length - at' := by simp
    rw [hdl]
    clear hdl
    go_enter Try.func30, Try.ntmps30
    go_wp2
    go_quiet (fail)
    go_wp2
    go_ret
    exact ⟨ret_int (by omega), _, rfl⟩
end Go.Proofs.Ytbdbbnpkekcefaa.Pack
namespace Go.Proofs.Ytbdbbnpkekcefaa.Pack
open Go.Proofs.Ytbdbbnpkekcefaa.Mem
open Go.ChangeShapes Go.WideShapes Go.ChangeAt Go.RowKit
set_option linter.unusedVariables false

theorem Rf.but {S : Nat → Prop} {w w' : World} {q bd : Nat} {zs : List Int} {short : Bool} (h : Rf w q bd zs short) (hb : But S w w') (hq : ¬ S q) (hd : ∀ k, k < bd → ¬ S k) : Rf w' q bd zs short := by
  obtain ⟨B, at', a, cap, h0, h1, h2, f1, f2, hr, hlc, hcm, hB, hat, hne, hnil, hz⟩ := h
  have hlt : q < w.heap.size := World.block_lt_of_cell? w ⟨q, 1, none⟩ h1
  exact ⟨B, at', a, cap, (hb.cell (p := ⟨q, 0, none⟩) hlt hq).trans h0, (hb.cell (p := ⟨q, 1, none⟩) hlt hq).trans h1, (hb.cell (p := ⟨q, 2, none⟩) hlt hq).trans h2, (hb.frozen (p := ⟨q, 1, none⟩) hlt hq).trans f1, (hb.frozen (p := ⟨q, 2, none⟩) hlt hq).trans f2,
    hr.but hb (fun p hp hn => hd _ (hne p hp hn).2), hlc, hcm, hB, hat, hne, hnil, hz⟩
set_option maxRecDepth 100000 in
set_option maxHeartbeats 1000000 in
theorem refText_read (q : Nat) {bd : Nat} (zs : List Int) (short : Bool) (w : World) (h : Rf w q bd zs short) (hzb : Bytes zs) :
    Calls Try.prog 57 #[.pointer (some ⟨q, 0, none⟩)] w fun e w' => e = .returned (.string (strOfNums (textGot zs))) ∧ Rf w' q bd (textLeft zs) (textShort zs short) ∧ But (fun b => b = q) w w' := by
  have hN : textLen zs < 65536 := num_got2_lt hzb
  obtain ⟨N, hNN⟩ : ∃ N, N = textLen zs := ⟨_, rfl⟩
  have hc := refNumber_any q zs short 2 (by omega) (by omega) w h
  have e0 : num (got zs 2) = N := hNN.symm
  rw [e0] at hc
  rw [textGot, textLeft, textShort, ← hNN]
  rw [← hNN] at hN
  clear hNN e0 h
  obtain ⟨Z, hZ⟩ : ∃ Z, Z = left zs 2 := ⟨_, rfl⟩
  obtain ⟨s1, hs1⟩ : ∃ s, s = shortBy zs 2 short := ⟨_, rfl⟩
  rw [← hZ, ← hs1] at hc ⊢
  clear hZ hs1
  go_enter Try.func57, Try.ntmps57
  go_wp2_with fail
  refine hc.mono ?_
  rintro e w1 ⟨rfl, ⟨B, at', a, cap, h0, h1, h2, f1, f2, hr, hlc, hcm, hB, hat, hne, hnil, hz⟩, hbut⟩
  clear hc
  rcases hz with ⟨rfl, rfl⟩ | ⟨rfl, rfl⟩
  · go_wp2
    go_ret
    have e1 : got [] N = [] := by unfold got; split <;> simp
    have e2 : left [] N = [] := by unfold left; split <;> simp
    have e3 : shortBy [] N true = true := by unfold shortBy; split <;> rfl
    rw [e1, e2, e3]
    exact ⟨rfl, ⟨B, at', a, cap, h0, h1, h2, f1, f2, hr, hlc, hcm, hB, hat, hne, hnil, .inl ⟨rfl, rfl⟩⟩, hbut⟩
  · have hdl : (B.drop at').length = B.length - at' := by simp
    by_cases hk : N ≤ B.length - at'
    · have e1 : got (B.drop at') N = (B.drop at').take N := if_pos (by omega)
      have e2 : left (B.drop at') N = B.drop (at' + N) := by rw [left, if_pos (by omega), List.drop_drop]
      have e3 : shortBy (B.drop at') N false = false := if_pos (by omega)
      have HE := Lib.hid (And.intro e1 (And.intro e2 e3))
      clear e1 e2 e3
      go_wp2
      go_quiet (fail)
      go_wp2
      have e5 : (at' : Int) + (N : Int) = ((at' + N : Nat) : Int) := by omega
      rw [e5]
      have hrf : Rf ((w1.drewN nq).setCell ⟨q, 1, none⟩ (.int .i64 ((at' + N : Nat) : Int))) q bd (B.drop (at' + N)) false := rf_step nq h0 h1 h2 f1 f2 hr hlc hcm hB (by omega) hne hnil
      have hb2 : But (fun b => b = q) w1 ((w1.drewN nq).setCell ⟨q, 1, none⟩ (.int .i64 ((at' + N : Nat) : Int))) := ((But.refl (fun b => b = q) w1).drewN nq).setCell (p := ⟨q, 1, none⟩) rfl _
      have c0 : ((w1.drewN nq).setCell ⟨q, 1, none⟩ (.int .i64 ((at' + N : Nat) : Int))).cell? ⟨q, 0, none⟩ = some (.slice a B.length cap) := cell_ne (w := w1.drewN nq) h0 (by simp)
      have c1 : ((w1.drewN nq).setCell ⟨q, 1, none⟩ (.int .i64 ((at' + N : Nat) : Int))).cell? ⟨q, 1, none⟩ = some (.int .i64 ((at' + N : Nat) : Int)) := World.cell?_setCell_same (w1.drewN nq) _ _ h1
      have hrw := hr.but hb2 (fun p hp hn => (hne p hp hn).1)
      obtain ⟨W, hW⟩ : ∃ W, W = (w1.drewN nq).setCell ⟨q, 1, none⟩ (.int .i64 ((at' + N : Nat) : Int)) := ⟨_, rfl⟩
      rw [← hW] at hrf hb2 c0 c1 hrw ⊢
      clear hW h0 h1 h2 f1 f2 e5
      obtain ⟨E, hE⟩ : ∃ E, E = at' + N := ⟨_, rfl⟩
      rw [← hE] at hrf c1 ⊢
      have hsub : (E : Int) - (N : Int) = (at' : Int) := by omega
      have HEE := Lib.hid hE
      have HF := Lib.hid hrf
      have HB2 := Lib.hid hb2
      clear hrf hb2
      by_cases hB0 : B.length = 0
      · have ha0 : at' = 0 := by omega
        have hN0 : N = 0 := by omega
        have hE0 : E = 0 := by omega
        have hBn : B = [] := List.eq_nil_of_length_eq_zero hB0
        clear hrw hr hlc hB hat hne hdl hk hsub hE hB0 hN
        subst ha0 hN0 hE0 hBn
        have hlen0 : ([] : List Int).length = 0 := rfl
        rw [hlen0] at c0
        have hz0 : ((0 : Nat) : Int) = 0 := rfl
        rw [hz0] at c1 ⊢
        have hw0 : IntKind.i64.wrap 0 = 0 := by decide
        have hstr := fun a c n dst hd => run_string_row (P := Try.prog) (Row.nil (w := W.drewN n) (a := a)) 22 5 dst Try.underlying22 Try.underlying5 hd c
        have HNIL := Lib.hid hnil
        rcases a with _ | ad
        · have hcap0 : cap = 0 := hnil rfl
          subst hcap0
          clear hnil
          go_quiet (fail)
          go_wp2
          go_ret
          refine ⟨rfl, HF.out.but ((But.refl (fun _ => False) W).drewN _) (fun h => h) (fun _ _ h => h), hbut.trans' (HB2.out.drewN _)⟩
        · go_quiet (fail)
          go_wp2
          go_ret
          refine ⟨rfl, HF.out.but ((But.refl (fun _ => False) W).drewN _) (fun h => h) (fun _ _ h => h), hbut.trans' (HB2.out.drewN _)⟩
      · obtain ⟨b, off, rfl, hblt, hcell⟩ := hrw.2.2 (by omega)
        have hcm' : cap ≤ 9223372036854775807 := by simpa [maxLen] using hcm
        by_cases hca : cap = at'
        · have hN0 : N = 0 := by omega
          have hE0 : E = at' := by omega
          clear hE hsub hk hdl
          subst hE0 hN0 hca
          have hz0 : ((0 : Nat) : Int) = 0 := rfl
          rw [hz0]
          have hstr := fun n dst hd => run_string_row (P := Try.prog) (Row.nil (w := W.drewN n) (a := some ⟨b, off, none⟩)) 22 5 dst Try.underlying22 Try.underlying5 hd 0
          clear hcell hrw
          go_quiet (fail)
          go_wp2
          go_ret
          rw [HE.out.1, HE.out.2.1, HE.out.2.2]
          refine ⟨rfl, HF.out.but ((But.refl (fun _ => False) W).drewN _) (fun h => h) (fun _ _ h => h), hbut.trans' (HB2.out.drewN _)⟩
        · have hrn : ∀ n, Row (W.drewN n) (some ⟨b, off + at', none⟩) N ((B.drop at').take N) := by
            intro n
            refine ⟨by rw [List.length_take, hdl]; omega, bytes_take (bytes_drop hr.2.1 _) _, fun hn => ⟨b, off + at', rfl, hblt, fun i hi => ?_⟩⟩
            have := hcell (at' + i) (by omega)
            rw [Nat.add_assoc]
            rw [World.cell?_drewN, this]
            simp [List.getD, hi, List.getElem?_drop]
          have hstr := fun n dst hd => run_string_row (P := Try.prog) (hrn n) 22 5 dst Try.underlying22 Try.underlying5 hd (cap - at')
          have hEN : E - at' = N := by omega
          have hElt : (E : Int) ≤ (cap : Int) := by omega
          have hatE : (at' : Int) ≤ (E : Int) := by omega
          clear hrn hcell hrw hE
          go_quiet (fail)
          go_wp2
          go_ret
          rw [HE.out.1, HE.out.2.1, HE.out.2.2, ← HEE.out]
          refine ⟨rfl, HF.out.but ((But.refl (fun _ => False) W).drewN _) (fun h => h) (fun _ _ h => h), hbut.trans' (HB2.out.drewN _)⟩
    · go_wp2
      go_quiet (fail)
      go_wp2
      go_ret
      have e1 : got (B.drop at') N = [] := if_neg (by omega)
      have e2 : left (B.drop at') N = [] := if_neg (by omega)
      have e3 : shortBy (B.drop at') N false = true := if_neg (by omega)
      rw [e1, e2, e3]
      exact ⟨rfl, rf_short _ h0 h1 h2 f1 f2 hr hlc hcm hB hat hne hnil, hbut.trans' (((But.refl (fun b => b = q) w1).drewN _).setCell (p := ⟨q, 2, none⟩) rfl _)⟩
end Go.Proofs.Ytbdbbnpkekcefaa.Pack
namespace Go.Proofs.Ytbdbbnpkekcefaa.Pack
open Go.Proofs.Ytbdbbnpkekcefaa.Mem
open Go.ChangeShapes Go.WideShapes Go.ChangeAt Go.RowKit
set_option linter.unusedVariables false

theorem Rd.below {w w' : World} {p D : Nat} {zs : List Int} {short : Bool} (h : Rd w p D zs short) (hb : Below w.heap.size w w') : Rd w' p D zs short := by
  refine h.but (S := fun _ => False) ((But.of_below hb).mono (fun i hi hs => by omega)) (fun h => h) (fun h => h)
theorem Rf.below {w w' : World} {q bd : Nat} {zs : List Int} {short : Bool} (h : Rf w q bd zs short) (hb : Below w.heap.size w w') : Rf w' q bd zs short := by
  refine h.but (S := fun _ => False) ((But.of_below hb).mono (fun i hi hs => by omega)) (fun h => h) (fun _ _ h => h)
theorem quiet_same {P : Program} {f : FuncId} {args : Array Value} {w : World} {n : Nat} {v : Value} (h : Calls P f args (w.drewN n) fun e w' => e = .returned v ∧ w.drewN n = w') : Calls P f args (w.drewN n) fun e w'' => e = .returned v ∧ ∃ m, w'' = w.drewN m :=
  h.mono fun _ _ h => ⟨h.1, n, h.2.symm⟩
theorem Row.drewN {w : World} {a : Option Addr} {len : Nat} {zs : List Int} (h : Row w a len zs) (n : Nat) : Row (w.drewN n) a len zs := h.but (S := fun _ => False) ((But.refl _ w).drewN n) (fun _ _ _ h => h)
theorem Rd.drewN {w : World} {p D : Nat} {zs : List Int} {short : Bool} (h : Rd w p D zs short) (n : Nat) : Rd (w.drewN n) p D zs short := h.but (S := fun _ => False) ((But.refl _ w).drewN n) (fun h => h) (fun h => h)
theorem Rf.drewN {w : World} {q bd : Nat} {zs : List Int} {short : Bool} (h : Rf w q bd zs short) (n : Nat) : Rf (w.drewN n) q bd zs short := h.but (S := fun _ => False) ((But.refl _ w).drewN n) (fun h => h) (fun _ _ h => h)
theorem Rf.short {w : World} {q bd : Nat} {zs : List Int} {short : Bool} (h : Rf w q bd zs short) : w.cell? ⟨q, 2, none⟩ = some (.bool short) := by
  obtain ⟨B, at', a, cap, h0, h1, h2, _⟩ := h
  exact h2
theorem rf_new (w : World) (a : Option Addr) (zs : List Int) (cap : Nat) (hr : Row w a zs.length zs) (hlc : zs.length ≤ cap) (hcm : cap ≤ maxLen) (hB : zs.length ≤ 1073741824) (hnil : a = none → cap = 0) (bd : Nat) (hbd : ∀ x, a = some x → 0 < zs.length → x.block < bd) (t : TypeId) :
    Rf (w.alloc (.cells #[.slice a zs.length cap, .int .i64 0, .bool false] t)) w.heap.size bd zs false := by
  refine ⟨zs, 0, a, cap, ?_, ?_, ?_, ?_, ?_, hr.below ((Below.refl _ _).alloc (Nat.le_refl _) _), hlc, hcm, hB, Nat.zero_le _, ?_, hnil, .inr ⟨rfl, rfl⟩⟩
  · rw [World.cell?_alloc_at _ _ _ _ rfl]; rfl
  · rw [World.cell?_alloc_at _ _ _ _ rfl]; rfl
  · rw [World.cell?_alloc_at _ _ _ _ rfl]; rfl
  · rw [World.frozen?_alloc_at _ _ _ _ rfl]
  · rw [World.frozen?_alloc_at _ _ _ _ rfl]
  · intro p hp hn
    obtain ⟨b, off, he, hlt, _⟩ := hr.2.2 hn
    rw [hp] at he
    injection he with he
    subst he
    exact ⟨Nat.ne_of_lt hlt, hbd _ hp hn⟩
theorem got_front {xs : List Int} (ys : List Int) {k : Nat} (h : xs.length = k) : got (xs ++ ys) k = xs := by
  subst h
  unfold got
  rw [if_pos (by simp)]
  exact List.take_left
theorem left_front {xs : List Int} (ys : List Int) {k : Nat} (h : xs.length = k) : left (xs ++ ys) k = ys := by
  subst h
  unfold left
  rw [if_pos (by simp)]
  exact List.drop_left
theorem short_front {xs : List Int} (ys : List Int) {k : Nat} (h : xs.length = k) (s : Bool) : shortBy (xs ++ ys) k s = s := by
  subst h
  exact if_pos (by simp)
/- What was put as a text is read as it was. -/
theorem textLen_front (s : ByteArray) (hs : s.size ≤ 65535) (ys : List Int) : textLen (put s.size 2 ++ (strBytes s ++ ys)) = s.size := by
  unfold textLen
  rw [got_front _ (put_length _ _), num_put]
  exact Nat.mod_eq_of_lt (by omega)
theorem textGot_front (s : ByteArray) (hs : s.size ≤ 65535) (ys : List Int) : textGot (put s.size 2 ++ (strBytes s ++ ys)) = strBytes s := by
  unfold textGot
  rw [textLen_front s hs, left_front _ (put_length _ _), got_front _ (strBytes_length s)]
theorem textLeft_front (s : ByteArray) (hs : s.size ≤ 65535) (ys : List Int) : textLeft (put s.size 2 ++ (strBytes s ++ ys)) = ys := by
  unfold textLeft
  rw [textLen_front s hs, left_front _ (put_length _ _), left_front _ (strBytes_length s)]
theorem textShort_front (s : ByteArray) (hs : s.size ≤ 65535) (ys : List Int) (b : Bool) : textShort (put s.size 2 ++ (strBytes s ++ ys)) b = b := by
  unfold textShort
  rw [textLen_front s hs, left_front _ (put_length _ _), short_front _ (strBytes_length s), short_front _ (put_length _ _)]
/- A part of a row is a row. -/
theorem Row.part {w : World} {b off len : Nat} {zs : List Int} (h : Row w (some ⟨b, off, none⟩) len zs) (i k : Nat) (hik : i + k ≤ len) (a : Option Addr) (ha : 0 < k → a = some ⟨b, off + i, none⟩) : Row w a k ((zs.drop i).take k) := by
  have hl : ((zs.drop i).take k).length = k := by rw [List.length_take, List.length_drop, h.1]; omega
  refine ⟨hl, bytes_take (bytes_drop h.2.1 i) k, fun h0 => ?_⟩
  obtain ⟨b', o, hq, hlt, hc⟩ := h.2.2 (by omega)
  injection hq with hq
  injection hq with hq1 hq2
  subst hq1 hq2
  refine ⟨b, off + i, ha h0, hlt, fun j hj => ?_⟩
  have := hc (i + j) (by omega)
  rw [← Nat.add_assoc] at this
  rw [this]
  simp [List.getD, List.getElem?_drop, hj]
end Go.Proofs.Ytbdbbnpkekcefaa.Pack
