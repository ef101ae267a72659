/- The document's example, at the head of all statements on disks; and a disk whose blocks are all new. -/
import Derived.Test.YtiaaadeenbjciaaDiskRead
import Derived.Lib.SlBytesConst
namespace Go.Proofs.Ytiaaadeenbjciaa.Disk
open Go.Proofs.Ytiaaadeenbjciaa.Mem
open Go.ChangeShapes Go.WideShapes Go.ChangeAt Go.RowKit
set_option linter.unusedVariables false
theorem code_same : ∃ i, Try.prog.info? 52 = some i ∧ i.comparable = true := by
  have h : (Try.prog.info? 52).map (fun i => i.comparable) = some true := by kernel_rfl
  obtain ⟨i, hi, hc⟩ := Option.map_eq_some_iff.1 h
  exact ⟨i, hi, hc⟩
/- Two errors of api's own type are one just if their numbers are. -/
theorem code_deep (d : Nat) (a b : Int) (w : World) : (Op.equalIn (d + 1 + 1) 35 (.iface 52 (.int .i64 a)) (.iface 52 (.int .i64 b))).run Try.prog w = .ok (a == b) w := by
  obtain ⟨i, hi, hc⟩ := code_same
  unfold Op.equalIn
  simp [Op.equalIn, run_underlying Try.underlying35, run_underlying Try.underlying52, typeInfo, hi, hc]
theorem code_equal (a b : Int) (w : World) : (Op.equal 35 (.iface 52 (.int .i64 a)) (.iface 52 (.int .i64 b))).run Try.prog w = .ok (a == b) w := code_deep 9998 a b w
theorem code_eql (a b : Int) (w : World) : (binOp .eql 35 (.iface 52 (.int .i64 a)) (.iface 52 (.int .i64 b))).run Try.prog w = .ok (.bool (a == b)) w := by
  simp [binOp, code_equal]
theorem code_neq (a b : Int) (w : World) : (binOp .neq 35 (.iface 52 (.int .i64 a)) (.iface 52 (.int .i64 b))).run Try.prog w = .ok (.bool (!(a == b))) w := by
  simp [binOp, code_equal]
/- A disk whose blocks all lie at B or above it. -/
def Mine (B : Nat) (w : World) (p : Nat) (S : St) : Prop := ∃ F, Has w p S F ∧ (∀ k, F k → B ≤ k) ∧ B ≤ w.heap.size
section
variable {B : Nat} {w w' w1 : World} {p : Nat} {S S' : St}
theorem mine_of {F : Nat → Prop} (hB : ∀ k, F k → B ≤ k) (hs : B ≤ w.heap.size) (h1 : Has w' p S' (grow F w w')) (h2 : But F w w') : Mine B w' p S' ∧ Below B w w' := by
  refine ⟨⟨_, h1, fun k hk => ?_, Nat.le_trans hs h2.size⟩, h2.below hs hB⟩
  rcases hk with h | h
  · exact hB k h
  · omega
theorem Mine.below (h : Mine B w p S) (hb : Below w.heap.size w w1) : Mine B w1 p S := by
  obtain ⟨F, hF, hB, hs⟩ := h
  have hlt : ∀ k, F k → k < w.heap.size := by obtain ⟨_, _, _, _, _, _, h3⟩ := hF; exact h3
  exact ⟨F, hF.but (But.of_below hb) (fun k hk hge => by have := hlt k hk; omega), hB, Nat.le_trans hs hb.size⟩
theorem mine_new (cap : Int) (w : World) (hB : B ≤ w.heap.size) :
    Calls Try.prog 7 #[.int .i64 cap] w fun e w' => ∃ p, e = .returned (.pointer (some ⟨p, 0, none⟩)) ∧ Mine B w' p (fresh cap) ∧ Below B w w' := by
  refine (new_any cap w).mono ?_
  rintro e w' ⟨p, rfl, _, h1, h2⟩
  obtain ⟨h3, h4⟩ := mine_of (B := B) (fun k hk => hk.elim) hB h1 h2
  exact ⟨p, rfl, h3, h4⟩
theorem mine_create (h : Mine B w p S) (hu : used S ≤ 1000000000) (s : ByteArray) (hs : s.size ≤ maxLen) :
    Calls Try.prog 9 #[.pointer (some ⟨p, 0, none⟩), .string s] w fun e w' => e = .returned (errV (create S s.data.toList).1) ∧ Mine B w' p (create S s.data.toList).2 ∧ Below B w w' := by
  obtain ⟨F, hF, hB, hs0⟩ := h
  exact (create_any hF hu s hs).mono fun e w' ⟨h1, h2, h3⟩ => ⟨h1, mine_of hB hs0 h2 h3⟩
theorem mine_sync (h : Mine B w p S) (hu : used S ≤ 1000000000) (s : ByteArray) (hs : s.size ≤ maxLen) :
    Calls Try.prog 11 #[.pointer (some ⟨p, 0, none⟩), .string s] w fun e w' => e = .returned (errV (sync S s.data.toList).1) ∧ Mine B w' p (sync S s.data.toList).2 ∧ Below B w w' := by
  obtain ⟨F, hF, hB, hs0⟩ := h
  exact (sync_any hF hu s hs).mono fun e w' ⟨h1, h2, h3⟩ => ⟨h1, mine_of hB hs0 h2 h3⟩
theorem mine_plan (h : Mine B w p S) (l k : Int) (hl : l ≤ 9223372036854775807) (hk : k ≤ 9223372036854775807) :
    Calls Try.prog 15 #[.pointer (some ⟨p, 0, none⟩), .int .i64 l, .int .i64 k] w fun e w' => e = .returned (.tuple #[]) ∧ Mine B w' p (planned S l k) ∧ Below B w w' := by
  obtain ⟨F, hF, hB, hs0⟩ := h
  exact (plan_any p S F l k hl hk w hF).mono fun e w' ⟨h1, h2, h3⟩ => ⟨h1, mine_of hB hs0 h2 h3⟩
theorem mine_open (h : Mine B w p S) :
    Calls Try.prog 17 #[.pointer (some ⟨p, 0, none⟩)] w fun e w' => e = .returned (.tuple #[]) ∧ Mine B w' p (opened S) ∧ Below B w w' := by
  obtain ⟨F, hF, hB, hs0⟩ := h
  exact (open_any p S F w hF).mono fun e w' ⟨h1, h2, h3⟩ => ⟨h1, mine_of hB hs0 h2 h3⟩
theorem mine_down (h : Mine B w p S) :
    Calls Try.prog 30 #[.pointer (some ⟨p, 0, none⟩)] w fun e w' => e = .returned (.bool S.down) ∧ w = w' := by
  obtain ⟨F, hF, _⟩ := h
  exact down_any p S F w hF
theorem mine_used (h : Mine B w p S) (hu : used S ≤ 1000000000) :
    Calls Try.prog 31 #[.pointer (some ⟨p, 0, none⟩)] w fun e w' => e = .returned (.int .i64 (used S : Int)) ∧ Mine B w' p S ∧ Below B w w' := by
  have h0 := h
  obtain ⟨F, hF, hB, hs0⟩ := h
  obtain ⟨mb, cr, es, D, hA, _⟩ := hF
  exact (used_at hA hu).mono fun e w' ⟨h1, h2⟩ => ⟨h1, h0.below h2, h2.mono hs0⟩
/- w: the world ahead of what is appended being laid, w1: behind that. -/
theorem mine_append (h : Mine B w p S) (hb : Below w.heap.size w w1) (s : ByteArray) (hs : s.size ≤ maxLen) (a : Option Addr) (len cap : Nat) (zs : List Int) (hr : Row w1 a len zs) (hnil : a = none → cap = 0) (hna : ∀ q, a = some q → 0 < len → q.block < B ∨ w.heap.size ≤ q.block) (hu : used S + len ≤ 1000000000) :
    Calls Try.prog 10 #[.pointer (some ⟨p, 0, none⟩), .string s, .slice a len cap] w1 fun x w' => x = .returned (errV (append S s.data.toList zs).1) ∧ Mine B w' p (append S s.data.toList zs).2 ∧ Below B w1 w' := by
  obtain ⟨F, hF, hB, hs0⟩ := h
  have hlt : ∀ k, F k → k < w.heap.size := by obtain ⟨_, _, _, _, _, _, h3⟩ := hF; exact h3
  have hF1 := hF.but (But.of_below hb) (fun k hk hge => by have := hlt k hk; omega)
  refine (append_any hF1 s hs a len cap zs hr hnil (fun q hq hn hk => ?_) hu).mono fun e w' ⟨h1, h2, h3⟩ => ⟨h1, mine_of hB (Nat.le_trans hs0 hb.size) h2 h3⟩
  have h5 := hB _ hk
  have h6 := hlt _ hk
  rcases hna q hq hn with h7 | h7 <;> omega
theorem mine_read (h : Mine B w p S) (hu : used S ≤ 1000000000) (s : ByteArray) (hs : s.size ≤ maxLen) (at_ k : Int) (h1 : at_ ≤ 9223372036854775807) :
    Calls Try.prog 19 #[.pointer (some ⟨p, 0, none⟩), .string s, .int .i64 at_, .int .i64 k] w fun x w' =>
      ∃ a c, x = .returned (.tuple #[.slice a (readOf S s.data.toList at_ k).2.length c, errV (readOf S s.data.toList at_ k).1]) ∧ Row w' a (readOf S s.data.toList at_ k).2.length (readOf S s.data.toList at_ k).2 ∧ Mine B w' p S ∧ Below B w w' := by
  have h0 := h
  obtain ⟨F, hF, hB, hs0⟩ := h
  exact (read_any hF hu s hs at_ k h1).mono fun x w' ⟨a, c, h2, h3, h4⟩ => ⟨a, c, h2, h3, h0.below h4, h4.mono hs0⟩
theorem mine_len (h : Mine B w p S) (s : ByteArray) (hs : s.size ≤ maxLen) :
    Calls Try.prog 40 #[.pointer (some ⟨p, 0, none⟩), .string s] w fun e w' => e = .returned (.tuple #[.int .i64 (lenOf S s.data.toList).1, errV (lenOf S s.data.toList).2]) ∧ w = w' := by
  obtain ⟨F, hF, _⟩ := h
  exact len_any hF s hs
theorem row_lit (w : World) (zs : List Int) (hz : Bytes zs) (fr : Nat × Nat) : Row (w.alloc (.cells (cellsOf zs).toArray 5 fr)) (some ⟨w.heap.size, 0, none⟩) zs.length zs := by
  refine ⟨rfl, hz, fun _ => ⟨_, _, rfl, by simp, fun i hi => ?_⟩⟩
  rw [Nat.zero_add, World.cell?_alloc_mark, List.getElem?_toArray, cellsOf_get hi]
end
def nameA : ByteArray := ⟨#[97]⟩
def U1 : St := ⟨5, [([97], ⟨[], 0⟩)], wrap64 (0 + 1), none, false⟩
def U2 : St := ⟨5, [([97], ⟨[], 0⟩)], wrap64 (0 + 1), some (0, 0), false⟩
def U3 : St := ⟨5, [([97], ⟨[], 0⟩)], wrap64 (0 + 1), none, true⟩
def U5 : St := ⟨5, [([97], ⟨[120, 121, 122], 0⟩)], wrap64 (wrap64 (0 + 1) + 1), none, false⟩
theorem up1 : create (fresh 5) [97] = (0, U1) := rfl
theorem up2 : planned U1 0 0 = U2 := rfl
theorem up3 : append U2 [97] [120] = (15, U3) := rfl
theorem up4 : opened U3 = U1 := rfl
theorem up5 : append U1 [97] [120, 121, 122] = (0, U5) := rfl
theorem up6 : append U5 [97] [120, 121, 122] = (12, U5) := rfl
theorem up7 : used U5 = 3 := rfl
theorem name_a : (⟨#[97]⟩ : ByteArray).data.toList = [97] := rfl
section
variable {B : Nat} {w w1 : World} {p : Nat}
theorem u_create (h : Mine B w p (fresh 5)) :
    Calls Try.prog 9 #[.pointer (some ⟨p, 0, none⟩), .string ⟨#[97]⟩] w fun e w' => e = .returned .nilIface ∧ Mine B w' p U1 ∧ Below B w w' := by
  have h2 := mine_create h (by decide) ⟨#[97]⟩ (by decide)
  rw [name_a, up1] at h2
  exact h2
theorem u_plan (h : Mine B w p U1) :
    Calls Try.prog 15 #[.pointer (some ⟨p, 0, none⟩), .int .i64 0, .int .i64 0] w fun e w' => e = .returned (.tuple #[]) ∧ Mine B w' p U2 ∧ Below B w w' := by
  have h2 := mine_plan h 0 0 (by decide) (by decide)
  rw [up2] at h2
  exact h2
theorem u_crash (h : Mine B w p U2) (hB : B ≤ w.heap.size) (fr : Nat × Nat) :
    Calls Try.prog 10 #[.pointer (some ⟨p, 0, none⟩), .string ⟨#[97]⟩, .slice (some ⟨w.heap.size, 0, none⟩) 1 1] (w.alloc (.cells #[.int .u8 120] 5 fr)) fun e w' => e = .returned (.iface 52 (.int .i64 15)) ∧ Mine B w' p U3 ∧ Below B w w' := by
  have hbl := (Below.refl w.heap.size w).alloc (Nat.le_refl _) (.cells #[.int .u8 120] 5 fr)
  have h2 := mine_append h hbl ⟨#[97]⟩ (by decide) (some ⟨w.heap.size, 0, none⟩) 1 1 [120] (row_lit w [120] (by unfold Bytes; decide) fr) (fun h => by cases h) (fun q hq _ => by injection hq with hq; subst hq; exact .inr (Nat.le_refl _)) (by decide)
  rw [name_a, up3] at h2
  exact h2.mono fun e w' ⟨h1, h3, h4⟩ => ⟨h1, h3, (hbl.mono hB).trans h4⟩
theorem u_open (h : Mine B w p U3) :
    Calls Try.prog 17 #[.pointer (some ⟨p, 0, none⟩)] w fun e w' => e = .returned (.tuple #[]) ∧ Mine B w' p U1 ∧ Below B w w' := by
  have h2 := mine_open h
  rw [up4] at h2
  exact h2
theorem u_append (h : Mine B w p U1) (hB : B ≤ w.heap.size) (fr : Nat × Nat) :
    Calls Try.prog 10 #[.pointer (some ⟨p, 0, none⟩), .string ⟨#[97]⟩, .slice (some ⟨w.heap.size, 0, none⟩) 3 3] (w.alloc (.cells #[.int .u8 120, .int .u8 121, .int .u8 122] 5 fr)) fun e w' => e = .returned .nilIface ∧ Mine B w' p U5 ∧ Below B w w' := by
  have hbl := (Below.refl w.heap.size w).alloc (Nat.le_refl _) (.cells #[.int .u8 120, .int .u8 121, .int .u8 122] 5 fr)
  have h2 := mine_append h hbl ⟨#[97]⟩ (by decide) (some ⟨w.heap.size, 0, none⟩) 3 3 [120, 121, 122] (row_lit w [120, 121, 122] (by unfold Bytes; decide) fr) (fun h => by cases h) (fun q hq _ => by injection hq with hq; subst hq; exact .inr (Nat.le_refl _)) (by decide)
  rw [name_a, up5] at h2
  exact h2.mono fun e w' ⟨h1, h3, h4⟩ => ⟨h1, h3, (hbl.mono hB).trans h4⟩
theorem u_full (h : Mine B w p U5) (hB : B ≤ w.heap.size) (fr : Nat × Nat) :
    Calls Try.prog 10 #[.pointer (some ⟨p, 0, none⟩), .string ⟨#[97]⟩, .slice (some ⟨w.heap.size, 0, none⟩) 3 3] (w.alloc (.cells #[.int .u8 120, .int .u8 121, .int .u8 122] 5 fr)) fun e w' => e = .returned (.iface 52 (.int .i64 12)) ∧ Mine B w' p U5 ∧ Below B w w' := by
  have hbl := (Below.refl w.heap.size w).alloc (Nat.le_refl _) (.cells #[.int .u8 120, .int .u8 121, .int .u8 122] 5 fr)
  have h2 := mine_append h hbl ⟨#[97]⟩ (by decide) (some ⟨w.heap.size, 0, none⟩) 3 3 [120, 121, 122] (row_lit w [120, 121, 122] (by unfold Bytes; decide) fr) (fun h => by cases h) (fun q hq _ => by injection hq with hq; subst hq; exact .inr (Nat.le_refl _)) (by decide)
  rw [name_a, up6] at h2
  exact h2.mono fun e w' ⟨h1, h3, h4⟩ => ⟨h1, h3, (hbl.mono hB).trans h4⟩
theorem u_used (h : Mine B w p U5) :
    Calls Try.prog 31 #[.pointer (some ⟨p, 0, none⟩)] w fun e w' => e = .returned (.int .i64 3) ∧ Below B w w' := by
  have h2 := mine_used h (by decide)
  rw [up7] at h2
  exact h2.mono fun e w' ⟨h1, h3, h4⟩ => ⟨h1, h4⟩
theorem u_down (h : Mine B w p U3) :
    Calls Try.prog 30 #[.pointer (some ⟨p, 0, none⟩)] w fun e w' => e = .returned (.bool true) ∧ w = w' := mine_down h
theorem Mine.size {S : St} (h : Mine B w p S) : B ≤ w.heap.size := by obtain ⟨F, _, _, h3⟩ := h; exact h3
end
set_option maxRecDepth 100000 in
set_option maxHeartbeats 1000000 in
theorem up_any (w : World) :
    Calls Try.prog 6 #[] w fun e w' => e = .returned (.bool true) ∧ Below w.heap.size w w' := by
  have kc := fun (w : World) (C : Array Value) (n c : Nat) => Lib.run_convert_bytes_const (P := Try.prog) w 30 5 C n c Try.underlying30 Try.underlying5
  have ke := code_eql
  go_enter Try.func6, Try.ntmps6
  go_wp2_with fail
  refine (mine_new 5 w (Nat.le_refl _)).mono ?_
  rintro e w1 ⟨p, rfl, hM, hb⟩
  go_wp2_with fail
  refine (u_create hM).mono ?_
  rintro e w2 ⟨rfl, hM2, hb2⟩
  have hb2 := hb.trans hb2
  clear hM hb
  go_wp2_with fail
  refine (u_plan hM2).mono ?_
  rintro e w3 ⟨rfl, hM3, hb3⟩
  have hb3 := hb2.trans hb3
  clear hM2 hb2
  go_wp2_with fail
  refine (u_crash hM3 hM3.size _).mono ?_
  rintro e w4 ⟨rfl, hM4, hb4⟩
  have hb4 := hb3.trans hb4
  clear hM3 hb3
  go_wp2_with fail
  refine (u_down hM4).mono ?_
  rintro e w' ⟨rfl, rfl⟩
  go_wp2_with fail
  refine (u_open hM4).mono ?_
  rintro e w5 ⟨rfl, hM5, hb5⟩
  have hb5 := hb4.trans hb5
  clear hM4 hb4
  go_wp2_with fail
  refine (u_append hM5 hM5.size _).mono ?_
  rintro e w6 ⟨rfl, hM6, hb6⟩
  have hb6 := hb5.trans hb6
  clear hM5 hb5
  go_wp2_with fail
  refine (u_full hM6 hM6.size _).mono ?_
  rintro e w7 ⟨rfl, hM7, hb7⟩
  have hb7 := hb6.trans hb7
  clear hM6 hb6
  go_wp2_with fail
  refine (u_used hM7).mono ?_
  rintro e w8 ⟨rfl, hb8⟩
  have hb8 := hb7.trans hb8
  clear hM7 hb7
  go_wp2
  go_ret
  exact ⟨rfl, hb8⟩
end Go.Proofs.Ytiaaadeenbjciaa.Disk
