/- The next ops, of any tag: the walk of command.nextOps. -/
import Derived.Test.YtbdbbnpkekcefaaCmdNext
namespace Go.Proofs.Ytbdbbnpkekcefaa.Cmd
open Go.Proofs.Ytbdbbnpkekcefaa.Mem Go.Proofs.Ytbdbbnpkekcefaa.Pack
open Go.ChangeShapes Go.WideShapes Go.ChangeAt Go.RowKit
set_option linter.unusedVariables false
set_option linter.unusedSimpArgs false

theorem op_info : (Try.prog.info? 87).map (fun i => (i.zero, i.size, i.bytes)) = some (some (.agg #[.bool false, .string ⟨#[]⟩, .string ⟨#[]⟩, .int .u64 0, .int .u64 0]), 5, 56) := by kernel_rfl
theorem sees_cells (w : World) (cs : List Value) (k : Nat) (hcs : cs.length = k) (e : TypeId) (fr : Nat × Nat) (g : Nat) (hg : g = w.heap.size) : Sees (w.alloc (.cells cs.toArray e fr)) k (.slice (some ⟨g, 0, none⟩) 1 1) 1 cs := by
  subst hg
  refine .inr ⟨_, _, rfl, by simp [hcs], fun j x hx => ?_⟩
  refine ⟨by simp, ?_⟩
  rw [add_none, Nat.zero_add, World.cell?_alloc_mark]
  simpa using hx
set_option maxRecDepth 100000 in
set_option maxHeartbeats 4000000 in
theorem nextOps_one (p D : Nat) (P : Pos) (tag : Int) (d : Bool) (h9 : (tag != 9) = true) (h8 : (tag == 8) = d) (w : World) (h : RdP p D w P) (hD : D < w.heap.size) :
    Calls Try.prog 46 #[.pointer (some ⟨p, 0, none⟩), .int .i64 tag] w fun e w' => ∃ sv, e = .returned sv ∧ OpsFrom w.heap.size w' sv [rdOp tag d P] ∧ RdP p D w' (endOp tag d P) ∧ But (fun b => b = p) w w' := by
  have k := nextOp_any p D P tag d w h hD
  obtain ⟨o, ho⟩ : ∃ o, o = rdOp tag d P := ⟨_, rfl⟩
  obtain ⟨Q, hQ⟩ : ∃ Q, Q = endOp tag d P := ⟨_, rfl⟩
  rw [← ho, ← hQ] at k
  rw [← ho, ← hQ]
  clear ho hQ
  unfold ov at k
  have hp := h.lt
  clear h
  go_enter Try.func46, Try.ntmps46
  go_wp2_with fail
  refine k.mono ?_
  rintro e w1 ⟨rfl, hr, hb⟩
  have hlo : w.heap.size ≤ w1.heap.size := hb.size
  have HO := Lib.hid (fun (e : TypeId) (fr : Nat × Nat) => opsFrom_one hlo o e fr)
  have HR := Lib.hid (And.intro hr hb)
  clear hr hb k
  go_wp2_with fail
  go_ret
  refine ⟨_, rfl, HO.out _ _, Rd.but (S := fun _ => False) HR.out.1 ((But.refl _ w1).alloc _) (fun e => e) (fun e => e), HR.out.2.alloc _⟩
set_option maxRecDepth 100000 in
set_option maxHeartbeats 4000000 in
theorem nextOps_nine (p D : Nat) (P : Pos) (w : World) (h : RdP p D w P) (hD : D < w.heap.size) :
    Calls Try.prog 46 #[.pointer (some ⟨p, 0, none⟩), .int .i64 9] w fun e w' => ∃ sv, e = .returned sv ∧ OpsFrom w.heap.size w' sv (ops9 (P.num 1) (P.skip 1)) ∧ RdP p D w' (at9 (P.num 1) (P.skip 1)) ∧ But (fun b => b = p) w w' := by
  obtain ⟨i0, hi0, hz0, hz1, hz2⟩ := info_parts op_info
  have kn := rdP_number p D P 1 (by omega) (by omega) w h
  have hn := num1_lt h.bytes
  have hp := h.lt
  obtain ⟨n, hne⟩ : ∃ n, n = P.num 1 := ⟨_, rfl⟩
  obtain ⟨Q, hQ⟩ : ∃ Q, Q = P.skip 1 := ⟨_, rfl⟩
  rw [← hne, ← hQ] at kn
  rw [← hne] at hn
  rw [← hne, ← hQ]
  clear hne hQ h
  go_enter Try.func46, Try.ntmps46
  go_wp2_with fail
  refine kn.mono ?_
  rintro e w1 ⟨rfl, hr1, hb1⟩
  clear kn
  have H1 := Lib.hid (And.intro hr1 hb1)
  clear hr1 hb1
  go_wp2_with fail
  go_loopw [5, 16] (fun v i wr => ∃ k : Nat, k ≤ n ∧ i = .int .u64 (k : Int) ∧ wr.ownsRow w.heap.size 87 5 v k ((ops9 k Q).flatMap ocells) ∧ RdP p D wr (at9 k Q) ∧ But (fun b => b = p) w wr) (fun _ i _ => n - (intOf i).toNat)
  case atStart => exact ⟨0, Nat.zero_le _, rfl, World.ownsRow_nil _ _ _ _, H1.out.1, H1.out.2⟩
  case round =>
    obtain ⟨k, hk, rfl, ho, hr, hb⟩ := hrel
    by_cases hlt : k < n
    · have kf := nextFlag_any p D (at9 k Q) wr hr
      have HO := Lib.hid (And.intro ho hb)
      obtain ⟨Z, hZ⟩ : ∃ Z, Z = at9 k Q := ⟨_, rfl⟩
      have hsn := ops9_snoc k Q
      have hat := at9_snoc k Q
      rw [← hZ] at kf hsn hat
      have HZ := Lib.hid (And.intro hsn hat)
      clear ho hr hb hZ hsn hat
      go_wp2_with fail
      refine kf.mono ?_
      rintro e w2 ⟨rfl, hr2, hb2⟩
      clear kf
      have hbw2 : But (fun b => b = p) w w2 := HO.out.2.trans' hb2
      have ko := nextOp_any p D (Z.skip 1) 9 (isDel Z) w2 hr2 (Nat.lt_of_lt_of_le hD hbw2.size)
      obtain ⟨o, hoe⟩ : ∃ o, o = rdOp 9 (isDel Z) (Z.skip 1) := ⟨_, rfl⟩
      obtain ⟨d, hde⟩ : ∃ d, d = isDel Z := ⟨_, rfl⟩
      rw [← hoe] at ko
      rw [← hde] at ko
      have ho2 := ownsRow_but HO.out.1 hb2 (fun k hk e => by have := (HO.out.1.lt k hk).1; omega)
      have H2 := Lib.hid (And.intro ho2 hbw2)
      have HE := Lib.hid (And.intro hoe hde)
      rw [← hde]
      clear hoe hde hr2 hb2 ho2 hbw2
      unfold ov at ko
      go_wp2_with fail
      refine ko.mono ?_
      rintro e w3 ⟨rfl, hr3, hb3⟩
      clear ko
      have ho3 := ownsRow_but H2.out.1 hb3 (fun k hk e => by have := (H2.out.1.lt k hk).1; omega)
      have hbw3 : But (fun b => b = p) w w3 := H2.out.2.trans' hb3
      have hsz3 : w.heap.size ≤ w3.heap.size := hbw3.size
      have HO3 := Lib.hid ho3
      have H3 := Lib.hid (And.intro hr3 hbw3)
      clear hr3 hb3 ho3 hbw3 H2
      go_wp2_with (at_builtin; refine wpList_append_onto rfl (.tmp 18) (.tmp 24) _ rfl w.heap.size 87 i0 _ 5 56 Try.underlying30 hi0 hz0 hz1 hz2 rfl (by omega) _ k ((ops9 k Q).flatMap ocells) rfl (ownsRow_alloc HO3.out _) (.slice (some ⟨w3.heap.size, 0, none⟩) 1 1) 1 (ocells o) rfl (sees_cells _ (ocells o) 5 rfl _ _ _ rfl) (ocells_one o) (by simp only [maxLen]; omega) (by omega) (by simp; omega) ?_; intro v5 w5 ho5 hon5)
      have hon := hon5.of_alloc (fun k hk => (HO3.out.lt k hk).2)
      have hr5 : RdP p D w5 (endOp 9 d (Z.skip 1)) := Rd.but (S := fun j => some j = _) H3.out.1 hon.but (fun e => by have := (HO3.out.lt p e.symm).1; omega) (fun e => by have := (HO3.out.lt D e.symm).1; omega)
      have hb5 : But (fun b => b = p) w w5 := H3.out.2.trans hon.but (fun j hj e => by have := (HO3.out.lt j e.symm).1; omega)
      have hsn5 : ops9 (k + 1) Q = ops9 k Q ++ [o] := by rw [HZ.out.1, HE.out.1]; rfl
      have hat5 : at9 (k + 1) Q = endOp 9 d (Z.skip 1) := by rw [HZ.out.2, HE.out.2]; rfl
      have ho6 : w5.ownsRow w.heap.size 87 5 v5 (k + 1) ((ops9 (k + 1) Q).flatMap ocells) := by
        rw [hsn5, List.flatMap_append]
        simpa using ho5
      rw [← hat5] at hr5
      have HF := Lib.hid (And.intro ho6 (And.intro hr5 hb5))
      clear ho5 hon5 hon hr5 hb5 hsn5 hat5 ho6
      have hwk : IntKind.u64.wrap ((k : Int) + 1) = ((k + 1 : Nat) : Int) := by rw [show ((k : Int) + 1) = ((k + 1 : Nat) : Int) by omega]; exact wrap_u64_nat (by omega)
      go_roundw
      case rel => exact ⟨k + 1, by omega, by first | rfl | (rw [hwk]) | go_num, HF.out⟩
      case measure => simp [intOf]; omega
    · have hkn : k = n := by omega
      subst hkn
      have HF := Lib.hid (And.intro ho (And.intro hr hb))
      clear ho hr hb hlt hk
      go_wp2_with fail
      go_ret
      refine ⟨_, rfl, ?_, HF.out.2⟩
      have h1 := HF.out.1
      have h2 := ops9_length k Q
      exact opsFrom_of_own (by rw [h2]; exact h1)
def opsRead (tag : Int) (P : Pos) : List Op := if tag = 9 then ops9 (P.num 1) (P.skip 1) else [rdOp tag (decide (tag = 8)) P]
def opsEnd (tag : Int) (P : Pos) : Pos := if tag = 9 then at9 (P.num 1) (P.skip 1) else endOp tag (decide (tag = 8)) P
theorem nextOps_any (p D : Nat) (P : Pos) (tag : Int) (w : World) (h : RdP p D w P) (hD : D < w.heap.size) :
    Calls Try.prog 46 #[.pointer (some ⟨p, 0, none⟩), .int .i64 tag] w fun e w' => ∃ sv, e = .returned sv ∧ OpsFrom w.heap.size w' sv (opsRead tag P) ∧ RdP p D w' (opsEnd tag P) ∧ But (fun b => b = p) w w' := by
  unfold opsRead opsEnd
  by_cases h9 : tag = 9
  · rw [if_pos h9, if_pos h9]
    subst h9
    exact nextOps_nine p D P w h hD
  · rw [if_neg h9, if_neg h9]
    exact nextOps_one p D P tag (decide (tag = 8)) (bne_iff_ne.2 h9) (by rw [Bool.eq_iff_iff]; simp) w h hD
end Go.Proofs.Ytbdbbnpkekcefaa.Cmd
