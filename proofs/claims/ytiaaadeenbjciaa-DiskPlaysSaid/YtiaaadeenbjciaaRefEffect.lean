/- Contract of the document's effect. MADE BY gen-ref.py -/
import Derived.Test.YtiaaadeenbjciaaRefSet
import Derived.Test.YtiaaadeenbjciaaDiskAppend
import Derived.Deep.RegionHeld3
import Derived.RegionTactic
import Derived.Deep.RegionLaw
import Derived.BigRegion
namespace Go.Proofs.Ytiaaadeenbjciaa.Disk
open Go.Proofs.Ytiaaadeenbjciaa.Mem
open Go.ChangeShapes Go.WideShapes Go.ChangeAt Go.RowKit
open Go.Proofs (encStr)
set_option linter.unusedVariables false
set_option linter.unusedSimpArgs false
section
variable {w : World} {rp : Nat} {S : St} {lv : Value} {rs : List (Nm × REnt)} {pl : Bool} {lf kp : Int}
set_option maxRecDepth 100000 in
set_option maxHeartbeats 1000000 in
theorem reffect_yes (h : RAt w rp S lv rs pl lf kp) (hn : now S = none) :
    Calls Try.prog 35 #[.pointer (some ⟨rp, 0, none⟩)] w fun e w' => e = .returned (.bool true) ∧ ∃ lf', RAt w' rp (stepS S) lv rs pl lf' kp ∧ But (fun k => k = rp) w w' := by
  have c2 : w.cell? ⟨rp, 2, none⟩ = some (.int .i64 S.effects) := h.blk.cell 2
  have f2 := h.blk.frozen 2
  have c3 : w.cell? ⟨rp, 3, none⟩ = some (.bool pl) := h.blk.cell 3
  have c4 : w.cell? ⟨rp, 4, none⟩ = some (.int .i64 lf) := h.blk.cell 4
  have f4 := h.blk.frozen 4
  have hpl := h.plan
  rcases hS : S.plan with _ | ⟨l, k⟩
  · rw [hS] at hpl
    have hp : pl = false := hpl
    subst hp
    have hb0 : But (fun k => k = rp) w (w.setCell ⟨rp, 2, none⟩ (.int .i64 (wrap64 (S.effects + 1)))) := but_set w rp 2 _
    have hfin : RAt (w.setCell ⟨rp, 2, none⟩ (.int .i64 (wrap64 (S.effects + 1)))) rp (stepS S) lv rs false lf kp := by
      refine h.disk hb0 rfl (h.blk.set_ 2 _) ?_ ⟨h.good.apart, h.good.synced, fun l k e => ?_⟩
      · show PlanR (S.plan.map _) _ _ _
        rw [hS]; rfl
      · have e' : S.plan.map (fun x : Int × Int => (x.1 - 1, x.2)) = some (l, k) := e
        rw [hS] at e'; cases e'
    have HF := Lib.hid hfin
    have HB := Lib.hid hb0
    clear hfin hS hpl h hn hb0
    go_enter Try.func35, Try.ntmps35
    go_wp2
    go_ret
    exact ⟨rfl, lf, HF.out, HB.out⟩
  · rw [hS] at hpl
    obtain ⟨rfl, rfl, rfl⟩ := hpl
    have hg := h.good.plan _ _ hS
    have hl : lf ≠ 0 := by
      intro e0
      unfold now at hn
      rw [hS] at hn
      simp only [if_pos e0] at hn
      cases hn
    have hl0 : (lf == 0) = false := by simpa using hl
    have hl1 : 1 ≤ lf := by omega
    have hl2 : lf ≤ 9223372036854775807 := hg.2.1
    have hb0 : But (fun k => k = rp) w ((w.setCell ⟨rp, 4, none⟩ (.int .i64 (lf - 1))).setCell ⟨rp, 2, none⟩ (.int .i64 (wrap64 (S.effects + 1)))) := (but_set w rp 4 _).trans' (but_set _ rp 2 _)
    have hfin : RAt ((w.setCell ⟨rp, 4, none⟩ (.int .i64 (lf - 1))).setCell ⟨rp, 2, none⟩ (.int .i64 (wrap64 (S.effects + 1)))) rp (stepS S) lv rs true (lf - 1) kp := by
      refine h.disk hb0 rfl ((h.blk.set_ 4 _).set_ 2 _) ?_ ⟨h.good.apart, h.good.synced, fun l' k' e => ?_⟩
      · show PlanR (S.plan.map _) _ _ _
        rw [hS]; exact ⟨rfl, rfl, rfl⟩
      · have e' : S.plan.map (fun x : Int × Int => (x.1 - 1, x.2)) = some (l', k') := e
        rw [hS] at e'
        injection e' with e'
        injection e' with e1 e2
        simp only at e1 e2
        omega
    have HF := Lib.hid hfin
    have HB := Lib.hid hb0
    clear hfin hS h hn hb0 hg hl
    go_enter Try.func35, Try.ntmps35
    go_wp2
    go_ret
    exact ⟨rfl, _, HF.out, HB.out⟩
theorem row_taken {w : World} {a : Option Addr} {len n : Nat} {zs : List Int} (h : Row w a len zs) (hn : n ≤ len) : Row w a n (zs.take n) := by
  refine ⟨by rw [List.length_take, h.1]; omega, bytes_take h.2.1 n, fun h0 => ?_⟩
  obtain ⟨b, off, ha, hlt, hc⟩ := h.2.2 (by omega)
  refine ⟨b, off, ha, hlt, fun i hi => ?_⟩
  rw [hc i (by omega)]
  simp [List.getD, hi]
theorem fresh_row {W w3 : World} {v3 : Value} {N : Nat} {zs : List Int} {o : Obj} (hz : Bytes zs) (hmade : (W.drew.alloc o).ownsRow W.heap.size 5 1 (.slice (some ⟨W.drew.heap.size, 0, none⟩) 0 0) 0 []) (hown : w3.ownsRow W.heap.size 5 1 v3 (0 + N) ([] ++ cellsOf zs)) (hon : Onto (W.drew.alloc o) w3 (.slice (some ⟨W.drew.heap.size, 0, none⟩) 0 0) v3) :
    ∃ a3 c3, v3 = .slice a3 N c3 ∧ w3.ownsRow 0 5 1 v3 N (cellsOf zs) ∧ Below W.heap.size W w3 ∧ ∀ j, v3.ownBlock = some j → W.heap.size ≤ j := by
  rw [Nat.zero_add, List.nil_append] at hown
  obtain ⟨a, c, hv, _⟩ := own_shape hown hz
  exact ⟨a, c, hv, ⟨hown.1, hown.2.imp id (fun ⟨g, cap, cur, h1, h2, h3⟩ => ⟨g, cap, cur, h1, Nat.zero_le _, h3⟩)⟩, ((Below.refl W.heap.size W).drew.alloc (Nat.le_refl _) o).trans (hon.below hmade (Below.size ((Below.refl W.heap.size W).drew.alloc (Nat.le_refl _) o))), fun j hj => (hown.lt j hj).1⟩
/- What holds at the head of the crash's loop. -/
def CrashRel (w : World) (rp : Nat) (S : St) (lv : Value) (rs : List (Nm × REnt)) (lf kp : Int) (i : Value) (wr : World) : Prop :=
  ∃ k rs', k ≤ rs.length ∧ i = .int .i64 (k : Int) ∧ RAt wr rp (mixS kp S k) lv rs' true lf kp ∧ But (fun j => lv.ownBlock = some j) w wr ∧ (∀ j, rfoot rp lv rs' j → rfoot rp lv rs j ∨ w.heap.size ≤ j) ∧ rs'.length = rs.length
theorem CrashRel.drew {rp' : Nat} {i : Value} {wr : World} (h : CrashRel w rp' S lv rs lf kp i wr) : CrashRel w rp' S lv rs lf kp i wr.drew := by
  obtain ⟨k, rs', h1, h2, h3, h4, h5, h6⟩ := h
  exact ⟨k, rs', h1, h2, h3.but (T := fun _ => False) (But.refl _ wr).drew (fun _ _ h => h), h4.drew, h5, h6⟩
theorem crash_step {k : Nat} {rs' : List (Nm × REnt)} {wr w3 : World} {g len cap n : Nat} {x : Nm × REnt} {v' : Value} (hlv : lv = .slice (some ⟨g, 0, none⟩) len cap) (hA : RAt wr rp (mixS kp S k) lv rs' true lf kp) (hb : But (fun j => lv.ownBlock = some j) w wr) (hf : ∀ j, rfoot rp lv rs' j → rfoot rp lv rs j ∨ w.heap.size ≤ j) (hl : rs'.length = rs.length)
    (hk : k < rs.length) (hx : rs'[k]? = some x) (hn : n = cutTo kp x.2.file) (hlenS : S.files.length = rs.length) (hb3 : Below wr.heap.size wr w3) (hv' : w3.ownsRow 0 5 1 v' n (cellsOf (x.2.bytes.take n))) (hnew : ∀ j, v'.ownBlock = some j → wr.heap.size ≤ j) :
    CrashRel w rp S lv rs lf kp (.int .i64 ((k : Int) + 1)) ((w3.setCell ⟨g, k * 3 + 1, none⟩ v').setCell ⟨g, k * 3 + 2, none⟩ (.int .i64 (n : Int))) := by
  have hown : lv.ownBlock = some g := by rw [hlv]; rfl
  have hent := hA.ent (List.mem_of_getElem? hx)
  have hle : n ≤ x.2.bytes.length := by rw [hn]; exact cutTo_le (f := x.2.file) hent.1
  have hglt := (hA.row.lt g hown).2
  have hbw : But (fun i => i = g) wr ((w3.setCell ⟨g, k * 3 + 1, none⟩ v').setCell ⟨g, k * 3 + 2, none⟩ (.int .i64 (n : Int))) :=
    ((But.of_new hb3).trans' (but_set w3 g (k * 3 + 1) v')).trans' (but_set _ g (k * 3 + 2) _)
  have hrow0 : w3.ownsRow 0 46 3 lv rs'.length (rcells rs') := ownsRow_but hA.row (But.of_below hb3) (fun i hi hge => by have := (hA.row.lt i hi).2; omega)
  have hlen2 : len = rs'.length := by
    have := hrow0.2
    rcases this with ⟨h1, h2⟩ | ⟨g', cap', cur, h1, _⟩
    · rw [hlv] at h1; cases h1
    · rw [hlv] at h1
      injection h1
  have hx2 : (rs'.set k (x.1, ⟨v', x.2.bytes.take n, x.2.synced⟩))[k]? = some (x.1, ⟨v', x.2.bytes.take n, x.2.synced⟩) := by
    rw [List.getElem?_set_self (by omega)]
  have hrow1 : ((w3.setCell ⟨g, k * 3 + 1, none⟩ v').setCell ⟨g, k * 3 + 2, none⟩ (.int .i64 (n : Int))).ownsRow 0 46 3 lv rs'.length (rcells (rs'.set k (x.1, ⟨v', x.2.bytes.take n, n⟩))) := by
    subst hlen2
    rw [hlv] at hrow0 ⊢
    have h1 := (hrow0.stored (k * 3 + 1) v').1
    have h2 := (h1.stored (k * 3 + 2) (.int .i64 (n : Int))).1
    have e1 := rcells_setB v' (x.2.bytes.take n) hx
    have e2 := rcells_setS n hx2
    simp only [List.set_set] at e2
    rw [e2, e1]
    exact h2
  have hyv : REntAt ((w3.setCell ⟨g, k * 3 + 1, none⟩ v').setCell ⟨g, k * 3 + 2, none⟩ (.int .i64 (n : Int))) ⟨v', x.2.bytes.take n, n⟩ := by
    have h1 := ownsRow_but hv' ((but_set w3 g (k * 3 + 1) v').trans' (but_set _ g (k * 3 + 2) (.int .i64 (n : Int)))) (fun i hi e => by have := hnew i hi; omega)
    show World.ownsRow _ _ _ _ _ (x.2.bytes.take n).length _
    rw [List.length_take, Nat.min_eq_left hle]
    exact h1
  have hA2 := hA.renew hx (y := ⟨v', x.2.bytes.take n, n⟩) ⟨by show n ≤ (x.2.bytes.take n).length; rw [List.length_take]; omega, bytes_take hent.2 n⟩ hown hbw hrow1 hyv
  have hfile := hA.fileAt hx
  rw [mix_get (by omega)] at hfile
  have hst := mix_step (kp := kp) hfile
  have hS2 : { mixS kp S k with files := (mixS kp S k).files.set k (x.1, (⟨v', x.2.bytes.take n, n⟩ : REnt).file) } = mixS kp S (k + 1) := by
    have : (⟨v', x.2.bytes.take n, n⟩ : REnt).file = trunc kp x.2.file := by
      unfold trunc REnt.file
      rw [hn]; rfl
    rw [this]
    simp only at hst
    rw [hst]; rfl
  rw [hS2] at hA2
  refine ⟨k + 1, _, by omega, by rw [Int.natCast_add]; rfl, hA2, hb.trans hbw (fun i _ e => by rw [e]; exact hown), ?_, by rw [List.length_set]; exact hl⟩
  intro j hj
  rcases rfoot_set (w := wr) (fun i hi => .inr (hnew i hi)) j hj with h1 | h1
  · exact hf j h1
  · exact .inr (Nat.le_trans hb.size h1)
set_option maxRecDepth 100000 in
set_option maxHeartbeats 4000000 in
theorem reffect_no (h : RAt w rp S lv rs pl lf kp) (hn : now S = some kp) (hu : used S ≤ 1000000000) (hln : rs.length ≤ 1000000) :
    Calls Try.prog 35 #[.pointer (some ⟨rp, 0, none⟩)] w fun e w' => e = .returned (.bool false) ∧ ∃ rs', RAt w' rp (crash kp S) lv rs' false 0 kp ∧ But (rfoot rp lv rs) w w' ∧ (∀ j, rfoot rp lv rs' j → rfoot rp lv rs j ∨ w.heap.size ≤ j) := by
  obtain ⟨i0, hi0, hz0, hz1, hz2⟩ := info_parts u8_info
  have hpl := h.plan
  have hS : S.plan = some (0, kp) ∧ pl = true ∧ lf = 0 := by
    rcases hS : S.plan with _ | ⟨l, k⟩
    · unfold now at hn; rw [hS] at hn; cases hn
    · unfold now at hn
      rw [hS] at hn hpl
      simp only at hn
      split at hn
      · next e0 => injection hn with hn; subst hn; obtain ⟨h1, h2, h3⟩ := hpl; exact ⟨by rw [e0], h1, by rw [h2, e0]⟩
      · cases hn
  obtain ⟨hS, rfl, rfl⟩ := hS
  have hg := h.good.plan _ _ hS
  obtain ⟨la, lc, rfl, hlc, hcm, hcell⟩ := h.shape
  have c1 : w.cell? ⟨rp, 1, none⟩ = some (.slice la rs.length lc) := h.blk.cell 1
  have c3 : w.cell? ⟨rp, 3, none⟩ = some (.bool true) := h.blk.cell 3
  have c4 : w.cell? ⟨rp, 4, none⟩ = some (.int .i64 0) := h.blk.cell 4
  have HST : Hid (CrashRel w rp S (.slice la rs.length lc) rs 0 kp (.int .i64 0) w) := Lib.hid ⟨0, rs, Nat.zero_le _, rfl, by rw [mix_zero]; exact h, But.refl _ _, fun j hj => .inl hj, rfl⟩
  have HLS : Hid (S.files.length = rs.length) := Lib.hid (by rw [← h.files, length_mapv])
  have HGP := Lib.hid hg
  have HU := Lib.hid hu
  have HUE := Lib.hid (rused_eq h)
  have HG := Lib.hid h.good
  have hn' : (rs.length : Int) ≤ 1000000 := by omega
  have kp0 : 0 ≤ kp := hg.2.2.1
  have kp1 : kp ≤ 9223372036854775807 := hg.2.2.2
  clear hcell h hcm hlc hu hln hpl hn hS hg
  go_enter Try.func35, Try.ntmps35
  go_wp2
  go_loopw [3] (fun i wr => CrashRel w rp S (.slice la rs.length lc) rs 0 kp i wr) (fun i _ => rs.length - (intOf i).toNat)
  case atStart => exact HST.out
  case round =>
    obtain ⟨k, rs', hk, rfl, hA, hb, hf, hl⟩ := hrel
    have d1 : wr.cell? ⟨rp, 1, none⟩ = some (.slice la rs.length lc) := hA.blk.cell 1
    have d5 : wr.cell? ⟨rp, 5, none⟩ = some (.int .i64 kp) := hA.blk.cell 5
    by_cases hlt : k < rs.length
    · obtain ⟨x, hx⟩ : ∃ x, rs'[k]? = some x := ⟨_, List.getElem?_eq_getElem (by omega)⟩
      obtain ⟨a', cap', hlv, hlc', hcm', hcell⟩ := hA.shape
      obtain ⟨g, hga, k0, k1, k2, hfr, hglt⟩ := hcell k x hx
      injection hlv with hlv1 hlv2 hlv3
      rw [hga] at hlv1
      subst hlv1
      have hmem := List.mem_of_getElem? hx
      obtain ⟨ba, bc, hv, hrow, hlbc, hbcm, hbsh⟩ := rent_shape (hA.ents x hmem) (hA.ent hmem).2
      have hent := hA.ent hmem
      have hfile := hA.fileAt hx
      rw [mix_get (by rw [HLS.out]; exact hlt)] at hfile
      have hble : x.2.bytes.length ≤ 1000000000 := by
        have := total_le_of (f := fun f : File => f.bytes.length) (List.mem_of_getElem? hfile)
        exact Nat.le_trans this HU.out
      obtain ⟨xn, xv, xb, xs⟩ := x
      simp only at hv k0 k1 k2 hrow hlbc hent hble hbsh
      subst hv
      obtain ⟨L, hL⟩ : ∃ L, L = xb.length := ⟨_, rfl⟩
      have hsL : xs ≤ L := by rw [hL]; exact hent.1
      rw [← hL] at k1 hble hlbc hrow
      have HLL := Lib.hid hL
      have HX := Lib.hid hx
      have HA := Lib.hid hA
      have HB := Lib.hid hb
      have HFT := Lib.hid hf
      have HLN := Lib.hid hl
      have HR := Lib.hid hrow
      have i0' : (0 : Int) ≤ (k : Int) := Int.natCast_nonneg _
      have i1 : (k : Int) < (rs.length : Int) := by omega
      have q1 : (L : Int) ≤ 1000000000 := by omega
      have q2 : (xs : Int) ≤ (L : Int) := by omega
      have q3 : IntKind.i64.wrap ((L : Int) - (xs : Int)) = (L : Int) - (xs : Int) := by rw [IntKind.wrap_i64]; omega
      clear hlc' hcm' hcell hga hmem hent hfile hL hx hA hb hf hl hrow hlv2 hlv3
      by_cases hkc : kp < (L : Int) - (xs : Int)
      · have hkd : decide (kp < (L : Int) - (xs : Int)) = true := by simpa using hkc
        go_wp2_with fail
        go_quiet (fail)
        go_wp2_with fail
        obtain ⟨N, hN⟩ : ∃ N : Nat, kp + (xs : Int) = (N : Int) := ⟨xs + kp.toNat, by omega⟩
        simp only [hN]
        have HNC : Hid (N = cutTo kp ⟨xb, xs⟩) := Lib.hid (by unfold cutTo; rw [← HLL.out]; simp only; omega)
        have HNL : Hid (N ≤ L) := Lib.hid (by omega)
        clear hN
        obtain ⟨W2, hW2⟩ : ∃ W2, W2 = wr.drewN nq := ⟨_, rfl⟩
        have hb2 : Below wr.heap.size wr W2 := by rw [hW2]; exact ⟨rfl, rfl, rfl, Nat.le_refl _, fun _ _ => rfl⟩
        have hs2 : W2.heap.size = wr.heap.size := by rw [hW2]; rfl
        rw [← hW2]
        clear hW2
        have hA2 : RAt W2 rp (mixS kp S k) (.slice (some ⟨g, 0, none⟩) rs.length lc) rs' true 0 kp := HA.out.but (But.of_below hb2) (fun j hj hge => by have := HA.out.lt j hj; omega)
        have e1 : W2.cell? ⟨rp, 1, none⟩ = some (.slice (some ⟨g, 0, none⟩) rs.length lc) := hA2.blk.cell 1
        have e2 : W2.cell? ⟨g, k * 3 + 1, none⟩ = some (.slice ba L bc) := (hb2.cell (p := ⟨g, k * 3 + 1, none⟩) hglt).trans k1
        have e3 : W2.cell? ⟨g, k * 3 + 2, none⟩ = some (.int .i64 xs) := (hb2.cell (p := ⟨g, k * 3 + 2, none⟩) hglt).trans k2
        have fr1 : W2.frozen? ⟨g, k * 3 + 1, none⟩ = false := (hb2.frozen (p := ⟨g, k * 3 + 1, none⟩) hglt).trans (hfr _)
        have fr2 : W2.frozen? ⟨g, k * 3 + 2, none⟩ = false := (hb2.frozen (p := ⟨g, k * 3 + 2, none⟩) hglt).trans (hfr _)
        have hglt2 : g < W2.heap.size := by omega
        have hrplt := hA2.blk.lt
        have HA2 := Lib.hid hA2
        have HB2 := Lib.hid hb2
        have HS2 := Lib.hid hs2
        have HR2 := Lib.hid (row_taken (n := N) (HR.out.below hb2) HNL.out)
        clear hb2 hs2 hA2 d1 d5 k0 k1 k2
        rcases hbsh with ⟨rfl, rfl, hxb⟩ | ⟨bb, rfl⟩
        · have hL0 : L = 0 := by rw [HLL.out, hxb]; rfl
          have HR3 := Lib.hid HR2.out
          have hN0 : N = 0 := by have := HNL.out; omega
          subst hL0
          subst hN0
          clear hxb hbcm hlbc hkc hkd q1 q2 q3
          have hgr : g ≠ rp := by
            intro e
            have h1 := HA2.out.blk
            rcases HA2.out.row.2 with ⟨h2, _⟩ | ⟨g', cap', cur, h2, _, h3, _⟩
            · cases h2
            · injection h2 with h2
              injection h2 with h2
              injection h2 with h2
              subst h2
              exact Blk.ne_ h1 (t' := 46) h3 (by decide) e.symm
          refine wp_region_held_drew (S := (fun w' => w'.cell? ⟨rp, 1, none⟩ = some (.slice (some ⟨g, 0, none⟩) rs.length lc))) (by kernel_rfl) ?_ (fun hH => ?_)
          · exact e1
          refine wpAnyH_take (i := 0) (v := ?_) (by simp only [List.getElem?_toArray, List.getElem?_cons_succ, List.getElem?_cons_zero]; rfl) (by kernel_rfl) (by kernel_rfl) (by kernel_rfl) (by exact fun _ _ _ h => h) (Or.inl ⟨by rfl, ?_⟩) hH ?_
          rotate_left
          · (intro wy hSw; (try dsimp only at hSw); go_simp; try (with_reducible rfl))
          try simp only [Act.put, List.setIfInBounds_toArray, List.set_cons_zero, List.set_cons_succ]
          refine wpAnyH_take (i := 1) (v := ?_) (by simp only [List.getElem?_toArray, List.getElem?_cons_succ, List.getElem?_cons_zero]; rfl) (by kernel_rfl) (by kernel_rfl) (by kernel_rfl) (by exact fun _ _ _ h => h) (Or.inl ⟨by rfl, ?_⟩) hH ?_
          rotate_left
          · (intro wy hSw; (try dsimp only at hSw); go_simp; try (with_reducible rfl))
          try simp only [Act.put, List.setIfInBounds_toArray, List.set_cons_zero, List.set_cons_succ]
          refine wpAnyH_take (i := 2) (v := ?_) (by simp only [List.getElem?_toArray, List.getElem?_cons_succ, List.getElem?_cons_zero]; rfl) (by kernel_rfl) (by kernel_rfl) (by kernel_rfl) (by exact fun _ _ _ h => h) (Or.inl ⟨by rfl, ?_⟩) hH ?_
          rotate_left
          · (intro wy hSw; (try dsimp only at hSw); go_simp; try (with_reducible rfl))
          try simp only [Act.put, List.setIfInBounds_toArray, List.set_cons_zero, List.set_cons_succ]
          refine wpAnyH_take (i := 3) (v := ?_) (by simp only [List.getElem?_toArray, List.getElem?_cons_succ, List.getElem?_cons_zero]; rfl) (by kernel_rfl) (by kernel_rfl) (by kernel_rfl) (by exact fun _ _ _ h => h) (Or.inl ⟨by rfl, ?_⟩) hH ?_
          rotate_left
          · (intro wy hSw; (try dsimp only at hSw); go_simp; try (with_reducible rfl))
          try simp only [Act.put, List.setIfInBounds_toArray, List.set_cons_zero, List.set_cons_succ]
          refine wpAnyH_take (i := 4) (v := ?_) (by simp only [List.getElem?_toArray, List.getElem?_cons_succ, List.getElem?_cons_zero]; rfl) (by kernel_rfl) (by kernel_rfl) (by kernel_rfl) (by exact fun _ _ _ h => h) (Or.inl ⟨by rfl, ?_⟩) hH ?_
          rotate_left
          · (intro wy hSw; (try dsimp only at hSw); go_simp; try (with_reducible rfl))
          try simp only [Act.put, List.setIfInBounds_toArray, List.set_cons_zero, List.set_cons_succ]
          refine wpAnyH_take (i := 6) (v := ?_) (by simp only [List.getElem?_toArray, List.getElem?_cons_succ, List.getElem?_cons_zero]; rfl) (by kernel_rfl) (by kernel_rfl) (by kernel_rfl) (by exact fun _ _ _ h => h) (Or.inl ⟨by rfl, ?_⟩) hH ?_
          rotate_left
          · (intro wy hSw; (try dsimp only at hSw); go_simp; try (with_reducible rfl))
          try simp only [Act.put, List.setIfInBounds_toArray, List.set_cons_zero, List.set_cons_succ]
          refine wpAnyH_take (i := 7) (v := ?_) (by simp only [List.getElem?_toArray, List.getElem?_cons_succ, List.getElem?_cons_zero]; rfl) (by kernel_rfl) (by kernel_rfl) (by kernel_rfl) (by exact fun _ _ _ h => h) (Or.inl ⟨by rfl, ?_⟩) hH ?_
          rotate_left
          · (intro wy hSw; (try dsimp only at hSw); go_simp; try (with_reducible rfl))
          try simp only [Act.put, List.setIfInBounds_toArray, List.set_cons_zero, List.set_cons_succ]
          refine wpAnyH_take (i := 8) (v := ?_) (by simp only [List.getElem?_toArray, List.getElem?_cons_succ, List.getElem?_cons_zero]; rfl) (by kernel_rfl) (by kernel_rfl) (by kernel_rfl) (by exact fun _ _ _ h => h) (Or.inl ⟨by rfl, ?_⟩) hH ?_
          rotate_left
          · (intro wy hSw; (try dsimp only at hSw); go_simp; try (with_reducible rfl))
          try simp only [Act.put, List.setIfInBounds_toArray, List.set_cons_zero, List.set_cons_succ]
          refine wpAnyH_take (i := 9) (v := ?_) (by simp only [List.getElem?_toArray, List.getElem?_cons_succ, List.getElem?_cons_zero]; rfl) (by kernel_rfl) (by kernel_rfl) (by kernel_rfl) (by exact fun _ _ _ h => h) (Or.inl ⟨by rfl, ?_⟩) hH ?_
          rotate_left
          · (intro wy hSw; (try dsimp only at hSw); go_simp; try (with_reducible rfl))
          try simp only [Act.put, List.setIfInBounds_toArray, List.set_cons_zero, List.set_cons_succ]
          refine wpAnyH_take (i := 10) (v := ?_) (by simp only [List.getElem?_toArray, List.getElem?_cons_succ, List.getElem?_cons_zero]; rfl) (by kernel_rfl) (by kernel_rfl) (by kernel_rfl) (by exact fun _ _ _ h => h) (Or.inl ⟨by rfl, ?_⟩) hH ?_
          rotate_left
          · (intro wy hSw; (try dsimp only at hSw); go_simp; try (with_reducible rfl))
          try simp only [Act.put, List.setIfInBounds_toArray, List.set_cons_zero, List.set_cons_succ]
          refine wpAnyH_take (i := 11) (v := ?_) (by simp only [List.getElem?_toArray, List.getElem?_cons_succ, List.getElem?_cons_zero]; rfl) (by kernel_rfl) (by kernel_rfl) (by kernel_rfl) (by exact fun _ _ _ h => h) (Or.inl ⟨by rfl, ?_⟩) hH ?_
          rotate_left
          · (intro wy hSw; (try dsimp only at hSw); go_simp; try (with_reducible rfl))
          try simp only [Act.put, List.setIfInBounds_toArray, List.set_cons_zero, List.set_cons_succ]
          refine wpAnyH_take (i := 12) (v := ?_) (by simp only [List.getElem?_toArray, List.getElem?_cons_succ, List.getElem?_cons_zero]; rfl) (by kernel_rfl) (by kernel_rfl) (by kernel_rfl) (by exact fun _ _ _ h => h) (Or.inl ⟨by rfl, ?_⟩) hH ?_
          rotate_left
          · (intro wy hSw; (try dsimp only at hSw); go_simp; try (with_reducible rfl))
          try simp only [Act.put, List.setIfInBounds_toArray, List.set_cons_zero, List.set_cons_succ]
          refine wpAnyH_take (i := 14) (v := ?_) (by simp only [List.getElem?_toArray, List.getElem?_cons_succ, List.getElem?_cons_zero]; rfl) (by kernel_rfl) (by kernel_rfl) (by kernel_rfl) (by exact fun _ _ _ h => h) (Or.inl ⟨by rfl, ?_⟩) hH ?_
          rotate_left
          · (intro wy hSw; (try dsimp only at hSw); go_simp; try (with_reducible rfl))
          try simp only [Act.put, List.setIfInBounds_toArray, List.set_cons_zero, List.set_cons_succ]
          refine wpAnyH_ready (rs := [5, 13]) (by kernel_rfl) (by simp) ?_
          refine AllReadyH.cons (by simp only [List.getElem?_toArray, List.getElem?_cons_succ, List.getElem?_cons_zero]; rfl) (fun K hK => ?_) (AllReadyH.cons (by simp only [List.getElem?_toArray, List.getElem?_cons_succ, List.getElem?_cons_zero]; rfl) (fun K hK => ?_) AllReadyH.nil)
          · clear hH
            go_simp
            refine hK.out _ _ ?_ (fun hH => ?_)
            · exact (World.cell?_alloc_lt _ _ _ hrplt).trans e1
            clear hK K
            try simp only [Act.put, List.setIfInBounds_toArray, List.set_cons_zero, List.set_cons_succ]
            refine wpAnyH_ready (rs := [13]) (by kernel_rfl) (by simp) ?_
            refine AllReadyH.cons (by simp only [List.getElem?_toArray, List.getElem?_cons_succ, List.getElem?_cons_zero]; rfl) (fun K hK => ?_) AllReadyH.nil
            clear hH
            go_simp
            refine hK.out _ _ ?_ (fun hH => ?_)
            · exact (World.cell?_alloc_lt _ _ _ hrplt).trans e1
            clear hK K
            try simp only [Act.put, List.setIfInBounds_toArray, List.set_cons_zero, List.set_cons_succ]
            refine wpAnyH_take (i := 15) (v := ?_) (by simp only [List.getElem?_toArray, List.getElem?_cons_succ, List.getElem?_cons_zero]; rfl) (by kernel_rfl) (by kernel_rfl) (by kernel_rfl) (by exact fun _ _ _ h => h) (Or.inl ⟨by rfl, ?_⟩) hH ?_
            rotate_left
            · (intro wy hSw; (try dsimp only at hSw); go_simp; try (with_reducible rfl))
            try simp only [Act.put, List.setIfInBounds_toArray, List.set_cons_zero, List.set_cons_succ]
            refine wpAnyH_ready (rs := [16]) (by kernel_rfl) (by simp) ?_
            refine AllReadyH.cons (by simp only [List.getElem?_toArray, List.getElem?_cons_succ, List.getElem?_cons_zero]; rfl) (fun K hK => ?_) AllReadyH.nil
            clear hH
            refine step_append_onto rfl (.tmp 68) (.tmp 78) _ rfl W2.heap.size 5 i0 _ 1 1 Try.underlying30 hi0 hz0 hz1 hz2 rfl (by omega) (.slice (some ⟨W2.drew.heap.size, 0, none⟩) 0 0) 0 [] rfl (World.ownsRow_made (base := W2.heap.size) (e := 5) (size := 1) W2.drew #[] 0 (Nat.le_refl _) (by simp) (by simp)) (.slice none 0 0) 0 (cellsOf (xb.take 0)) rfl ((HR2.out.sees (fun h => rfl)).below ((Below.refl W2.heap.size W2).drew.alloc (Nat.le_refl _) _)) (cellsOf_one _) (by simp only [maxLen]; have := HNL.out; omega) (by have := HNL.out; omega) (Below.size ((Below.refl W2.heap.size W2).drew.alloc (Nat.le_refl _) _)) ?_
            intro v3 w3 hown3 honto3
            obtain ⟨a3, c3, rfl, ho3, hb3, hn3⟩ := fresh_row (zs := xb.take 0) HR2.out.2.1 (World.ownsRow_made (base := W2.heap.size) (e := 5) (size := 1) W2.drew #[] 0 (Nat.le_refl _) (by simp) (by simp)) hown3 honto3
            have s1 : w3.cell? ⟨g, k * 3 + 1, none⟩ = some (.slice none 0 0) := (hb3.cell (p := ⟨g, k * 3 + 1, none⟩) hglt2).trans e2
            have s1f : w3.frozen? ⟨g, k * 3 + 1, none⟩ = false := (hb3.frozen (p := ⟨g, k * 3 + 1, none⟩) hglt2).trans fr1
            have s2 : w3.cell? ⟨g, k * 3 + 2, none⟩ = some (.int .i64 xs) := (hb3.cell (p := ⟨g, k * 3 + 2, none⟩) hglt2).trans e3
            have s2f : w3.frozen? ⟨g, k * 3 + 2, none⟩ = false := (hb3.frozen (p := ⟨g, k * 3 + 2, none⟩) hglt2).trans fr2
            have s3 : w3.cell? ⟨rp, 1, none⟩ = some (.slice (some ⟨g, 0, none⟩) rs.length lc) := (hb3.cell (p := ⟨rp, 1, none⟩) hrplt).trans e1
            have HO3 := Lib.hid ho3
            have HB3 := Lib.hid hb3
            have HN3 := Lib.hid hn3
            clear ho3 hb3 hn3 hown3 honto3
            refine hK.out _ _ ?_ (fun hH => ?_)
            · exact s3
            clear hK K
            try simp only [Act.put, List.setIfInBounds_toArray, List.set_cons_zero, List.set_cons_succ]
            refine wpAnyH_take (i := 17) (v := ?_) (by simp only [List.getElem?_toArray, List.getElem?_cons_succ, List.getElem?_cons_zero]; rfl) (by kernel_rfl) (by kernel_rfl) (by kernel_rfl) (by exact fun _ _ _ h => h) (Or.inl ⟨by rfl, ?_⟩) hH ?_
            rotate_left
            · (intro wy hSw; (try dsimp only at hSw); go_simp; try (with_reducible rfl))
            try simp only [Act.put, List.setIfInBounds_toArray, List.set_cons_zero, List.set_cons_succ]
            refine wpAnyH_take (i := 18) (v := ?_) (by simp only [List.getElem?_toArray, List.getElem?_cons_succ, List.getElem?_cons_zero]; rfl) (by kernel_rfl) (by kernel_rfl) (by kernel_rfl) (by exact fun _ _ _ h => h) (Or.inl ⟨by rfl, ?_⟩) hH ?_
            rotate_left
            · (intro wy hSw; (try dsimp only at hSw); go_simp; try (with_reducible rfl))
            try simp only [Act.put, List.setIfInBounds_toArray, List.set_cons_zero, List.set_cons_succ]
            refine wpAnyH_ready (rs := [19]) (by kernel_rfl) (by simp) ?_
            refine AllReadyH.cons (by simp only [List.getElem?_toArray, List.getElem?_cons_succ, List.getElem?_cons_zero]; rfl) (fun K hK => ?_) AllReadyH.nil
            clear hH
            go_simp
            refine hK.out _ _ ?_ (fun hH => ?_)
            · exact (World.cell?_setCell_other _ _ _ _ (by simp [hgr])).trans s3
            clear hK K
            try simp only [Act.put, List.setIfInBounds_toArray, List.set_cons_zero, List.set_cons_succ]
            refine wpAnyH_done (by kernel_rfl) ?_ _
            have HFIN : Hid (CrashRel w rp S (.slice (some ⟨g, 0, none⟩) rs.length lc) rs 0 kp (.int .i64 ((k : Int) + 1)) ((w3.setCell ⟨g, k * 3 + 1, none⟩ (.slice a3 0 c3)).setCell ⟨g, k * 3 + 2, none⟩ (.int .i64 (0 : Int)))) := Lib.hid (crash_step rfl HA2.out (HB.out.trans (But.of_new HB2.out) (fun i _ e => e)) HFT.out HLN.out hlt HX.out HNC.out HLS.out HB3.out HO3.out HN3.out)
            go_wp2_with fail
            go_roundw
            case rel =>
              exact HFIN.out
            case measure => simp [intOf]; omega
          · clear hH
            go_simp
            refine hK.out _ _ ?_ (fun hH => ?_)
            · exact e1
            clear hK K
            try simp only [Act.put, List.setIfInBounds_toArray, List.set_cons_zero, List.set_cons_succ]
            refine wpAnyH_take (i := 15) (v := ?_) (by simp only [List.getElem?_toArray, List.getElem?_cons_succ, List.getElem?_cons_zero]; rfl) (by kernel_rfl) (by kernel_rfl) (by kernel_rfl) (by exact fun _ _ _ h => h) (Or.inl ⟨by rfl, ?_⟩) hH ?_
            rotate_left
            · (intro wy hSw; (try dsimp only at hSw); go_simp; try (with_reducible rfl))
            try simp only [Act.put, List.setIfInBounds_toArray, List.set_cons_zero, List.set_cons_succ]
            refine wpAnyH_ready (rs := [5]) (by kernel_rfl) (by simp) ?_
            refine AllReadyH.cons (by simp only [List.getElem?_toArray, List.getElem?_cons_succ, List.getElem?_cons_zero]; rfl) (fun K hK => ?_) AllReadyH.nil
            clear hH
            go_simp
            refine hK.out _ _ ?_ (fun hH => ?_)
            · exact (World.cell?_alloc_lt _ _ _ hrplt).trans e1
            clear hK K
            try simp only [Act.put, List.setIfInBounds_toArray, List.set_cons_zero, List.set_cons_succ]
            refine wpAnyH_ready (rs := [16]) (by kernel_rfl) (by simp) ?_
            refine AllReadyH.cons (by simp only [List.getElem?_toArray, List.getElem?_cons_succ, List.getElem?_cons_zero]; rfl) (fun K hK => ?_) AllReadyH.nil
            clear hH
            refine step_append_onto rfl (.tmp 68) (.tmp 78) _ rfl W2.heap.size 5 i0 _ 1 1 Try.underlying30 hi0 hz0 hz1 hz2 rfl (by omega) (.slice (some ⟨W2.drew.heap.size, 0, none⟩) 0 0) 0 [] rfl (World.ownsRow_made (base := W2.heap.size) (e := 5) (size := 1) W2.drew #[] 0 (Nat.le_refl _) (by simp) (by simp)) (.slice none 0 0) 0 (cellsOf (xb.take 0)) rfl ((HR2.out.sees (fun h => rfl)).below ((Below.refl W2.heap.size W2).drew.alloc (Nat.le_refl _) _)) (cellsOf_one _) (by simp only [maxLen]; have := HNL.out; omega) (by have := HNL.out; omega) (Below.size ((Below.refl W2.heap.size W2).drew.alloc (Nat.le_refl _) _)) ?_
            intro v3 w3 hown3 honto3
            obtain ⟨a3, c3, rfl, ho3, hb3, hn3⟩ := fresh_row (zs := xb.take 0) HR2.out.2.1 (World.ownsRow_made (base := W2.heap.size) (e := 5) (size := 1) W2.drew #[] 0 (Nat.le_refl _) (by simp) (by simp)) hown3 honto3
            have s1 : w3.cell? ⟨g, k * 3 + 1, none⟩ = some (.slice none 0 0) := (hb3.cell (p := ⟨g, k * 3 + 1, none⟩) hglt2).trans e2
            have s1f : w3.frozen? ⟨g, k * 3 + 1, none⟩ = false := (hb3.frozen (p := ⟨g, k * 3 + 1, none⟩) hglt2).trans fr1
            have s2 : w3.cell? ⟨g, k * 3 + 2, none⟩ = some (.int .i64 xs) := (hb3.cell (p := ⟨g, k * 3 + 2, none⟩) hglt2).trans e3
            have s2f : w3.frozen? ⟨g, k * 3 + 2, none⟩ = false := (hb3.frozen (p := ⟨g, k * 3 + 2, none⟩) hglt2).trans fr2
            have s3 : w3.cell? ⟨rp, 1, none⟩ = some (.slice (some ⟨g, 0, none⟩) rs.length lc) := (hb3.cell (p := ⟨rp, 1, none⟩) hrplt).trans e1
            have HO3 := Lib.hid ho3
            have HB3 := Lib.hid hb3
            have HN3 := Lib.hid hn3
            clear ho3 hb3 hn3 hown3 honto3
            refine hK.out _ _ ?_ (fun hH => ?_)
            · exact s3
            clear hK K
            try simp only [Act.put, List.setIfInBounds_toArray, List.set_cons_zero, List.set_cons_succ]
            refine wpAnyH_take (i := 17) (v := ?_) (by simp only [List.getElem?_toArray, List.getElem?_cons_succ, List.getElem?_cons_zero]; rfl) (by kernel_rfl) (by kernel_rfl) (by kernel_rfl) (by exact fun _ _ _ h => h) (Or.inl ⟨by rfl, ?_⟩) hH ?_
            rotate_left
            · (intro wy hSw; (try dsimp only at hSw); go_simp; try (with_reducible rfl))
            try simp only [Act.put, List.setIfInBounds_toArray, List.set_cons_zero, List.set_cons_succ]
            refine wpAnyH_take (i := 18) (v := ?_) (by simp only [List.getElem?_toArray, List.getElem?_cons_succ, List.getElem?_cons_zero]; rfl) (by kernel_rfl) (by kernel_rfl) (by kernel_rfl) (by exact fun _ _ _ h => h) (Or.inl ⟨by rfl, ?_⟩) hH ?_
            rotate_left
            · (intro wy hSw; (try dsimp only at hSw); go_simp; try (with_reducible rfl))
            try simp only [Act.put, List.setIfInBounds_toArray, List.set_cons_zero, List.set_cons_succ]
            refine wpAnyH_ready (rs := [19]) (by kernel_rfl) (by simp) ?_
            refine AllReadyH.cons (by simp only [List.getElem?_toArray, List.getElem?_cons_succ, List.getElem?_cons_zero]; rfl) (fun K hK => ?_) AllReadyH.nil
            clear hH
            go_simp
            refine hK.out _ _ ?_ (fun hH => ?_)
            · exact (World.cell?_setCell_other _ _ _ _ (by simp [hgr])).trans s3
            clear hK K
            try simp only [Act.put, List.setIfInBounds_toArray, List.set_cons_zero, List.set_cons_succ]
            refine wpAnyH_done (by kernel_rfl) ?_ _
            have HFIN : Hid (CrashRel w rp S (.slice (some ⟨g, 0, none⟩) rs.length lc) rs 0 kp (.int .i64 ((k : Int) + 1)) ((w3.setCell ⟨g, k * 3 + 1, none⟩ (.slice a3 0 c3)).setCell ⟨g, k * 3 + 2, none⟩ (.int .i64 (0 : Int)))) := Lib.hid (crash_step rfl HA2.out (HB.out.trans (But.of_new HB2.out) (fun i _ e => e)) HFT.out HLN.out hlt HX.out HNC.out HLS.out HB3.out HO3.out HN3.out)
            go_wp2_with fail
            go_roundw
            case rel =>
              exact HFIN.out
            case measure => simp [intOf]; omega
        · have u1 : (N : Int) ≤ (bc : Int) := by have := HNL.out; omega
          have u2 : (bc : Int) ≤ 9223372036854775807 := by have : bc ≤ 9223372036854775807 := hbcm; omega
          have HBC := Lib.hid hbcm
          clear hbcm hlbc
          have hgr : g ≠ rp := by
            intro e
            have h1 := HA2.out.blk
            rcases HA2.out.row.2 with ⟨h2, _⟩ | ⟨g', cap', cur, h2, _, h3, _⟩
            · cases h2
            · injection h2 with h2
              injection h2 with h2
              injection h2 with h2
              subst h2
              exact Blk.ne_ h1 (t' := 46) h3 (by decide) e.symm
          refine wp_region_held_drew (S := (fun w' => w'.cell? ⟨rp, 1, none⟩ = some (.slice (some ⟨g, 0, none⟩) rs.length lc))) (by kernel_rfl) ?_ (fun hH => ?_)
          · exact e1
          refine wpAnyH_take (i := 0) (v := ?_) (by simp only [List.getElem?_toArray, List.getElem?_cons_succ, List.getElem?_cons_zero]; rfl) (by kernel_rfl) (by kernel_rfl) (by kernel_rfl) (by exact fun _ _ _ h => h) (Or.inl ⟨by rfl, ?_⟩) hH ?_
          rotate_left
          · (intro wy hSw; (try dsimp only at hSw); go_simp; try (with_reducible rfl))
          try simp only [Act.put, List.setIfInBounds_toArray, List.set_cons_zero, List.set_cons_succ]
          refine wpAnyH_take (i := 1) (v := ?_) (by simp only [List.getElem?_toArray, List.getElem?_cons_succ, List.getElem?_cons_zero]; rfl) (by kernel_rfl) (by kernel_rfl) (by kernel_rfl) (by exact fun _ _ _ h => h) (Or.inl ⟨by rfl, ?_⟩) hH ?_
          rotate_left
          · (intro wy hSw; (try dsimp only at hSw); go_simp; try (with_reducible rfl))
          try simp only [Act.put, List.setIfInBounds_toArray, List.set_cons_zero, List.set_cons_succ]
          refine wpAnyH_take (i := 2) (v := ?_) (by simp only [List.getElem?_toArray, List.getElem?_cons_succ, List.getElem?_cons_zero]; rfl) (by kernel_rfl) (by kernel_rfl) (by kernel_rfl) (by exact fun _ _ _ h => h) (Or.inl ⟨by rfl, ?_⟩) hH ?_
          rotate_left
          · (intro wy hSw; (try dsimp only at hSw); go_simp; try (with_reducible rfl))
          try simp only [Act.put, List.setIfInBounds_toArray, List.set_cons_zero, List.set_cons_succ]
          refine wpAnyH_take (i := 3) (v := ?_) (by simp only [List.getElem?_toArray, List.getElem?_cons_succ, List.getElem?_cons_zero]; rfl) (by kernel_rfl) (by kernel_rfl) (by kernel_rfl) (by exact fun _ _ _ h => h) (Or.inl ⟨by rfl, ?_⟩) hH ?_
          rotate_left
          · (intro wy hSw; (try dsimp only at hSw); go_simp; try (with_reducible rfl))
          try simp only [Act.put, List.setIfInBounds_toArray, List.set_cons_zero, List.set_cons_succ]
          refine wpAnyH_take (i := 4) (v := ?_) (by simp only [List.getElem?_toArray, List.getElem?_cons_succ, List.getElem?_cons_zero]; rfl) (by kernel_rfl) (by kernel_rfl) (by kernel_rfl) (by exact fun _ _ _ h => h) (Or.inl ⟨by rfl, ?_⟩) hH ?_
          rotate_left
          · (intro wy hSw; (try dsimp only at hSw); go_simp; try (with_reducible rfl))
          try simp only [Act.put, List.setIfInBounds_toArray, List.set_cons_zero, List.set_cons_succ]
          refine wpAnyH_take (i := 6) (v := ?_) (by simp only [List.getElem?_toArray, List.getElem?_cons_succ, List.getElem?_cons_zero]; rfl) (by kernel_rfl) (by kernel_rfl) (by kernel_rfl) (by exact fun _ _ _ h => h) (Or.inl ⟨by rfl, ?_⟩) hH ?_
          rotate_left
          · (intro wy hSw; (try dsimp only at hSw); go_simp; try (with_reducible rfl))
          try simp only [Act.put, List.setIfInBounds_toArray, List.set_cons_zero, List.set_cons_succ]
          refine wpAnyH_take (i := 7) (v := ?_) (by simp only [List.getElem?_toArray, List.getElem?_cons_succ, List.getElem?_cons_zero]; rfl) (by kernel_rfl) (by kernel_rfl) (by kernel_rfl) (by exact fun _ _ _ h => h) (Or.inl ⟨by rfl, ?_⟩) hH ?_
          rotate_left
          · (intro wy hSw; (try dsimp only at hSw); go_simp; try (with_reducible rfl))
          try simp only [Act.put, List.setIfInBounds_toArray, List.set_cons_zero, List.set_cons_succ]
          refine wpAnyH_take (i := 8) (v := ?_) (by simp only [List.getElem?_toArray, List.getElem?_cons_succ, List.getElem?_cons_zero]; rfl) (by kernel_rfl) (by kernel_rfl) (by kernel_rfl) (by exact fun _ _ _ h => h) (Or.inl ⟨by rfl, ?_⟩) hH ?_
          rotate_left
          · (intro wy hSw; (try dsimp only at hSw); go_simp; try (with_reducible rfl))
          try simp only [Act.put, List.setIfInBounds_toArray, List.set_cons_zero, List.set_cons_succ]
          refine wpAnyH_take (i := 9) (v := ?_) (by simp only [List.getElem?_toArray, List.getElem?_cons_succ, List.getElem?_cons_zero]; rfl) (by kernel_rfl) (by kernel_rfl) (by kernel_rfl) (by exact fun _ _ _ h => h) (Or.inl ⟨by rfl, ?_⟩) hH ?_
          rotate_left
          · (intro wy hSw; (try dsimp only at hSw); go_simp; try (with_reducible rfl))
          try simp only [Act.put, List.setIfInBounds_toArray, List.set_cons_zero, List.set_cons_succ]
          refine wpAnyH_take (i := 10) (v := ?_) (by simp only [List.getElem?_toArray, List.getElem?_cons_succ, List.getElem?_cons_zero]; rfl) (by kernel_rfl) (by kernel_rfl) (by kernel_rfl) (by exact fun _ _ _ h => h) (Or.inl ⟨by rfl, ?_⟩) hH ?_
          rotate_left
          · (intro wy hSw; (try dsimp only at hSw); go_simp; try (with_reducible rfl))
          try simp only [Act.put, List.setIfInBounds_toArray, List.set_cons_zero, List.set_cons_succ]
          refine wpAnyH_take (i := 11) (v := ?_) (by simp only [List.getElem?_toArray, List.getElem?_cons_succ, List.getElem?_cons_zero]; rfl) (by kernel_rfl) (by kernel_rfl) (by kernel_rfl) (by exact fun _ _ _ h => h) (Or.inl ⟨by rfl, ?_⟩) hH ?_
          rotate_left
          · (intro wy hSw; (try dsimp only at hSw); go_simp; try (with_reducible rfl))
          try simp only [Act.put, List.setIfInBounds_toArray, List.set_cons_zero, List.set_cons_succ]
          refine wpAnyH_take (i := 12) (v := ?_) (by simp only [List.getElem?_toArray, List.getElem?_cons_succ, List.getElem?_cons_zero]; rfl) (by kernel_rfl) (by kernel_rfl) (by kernel_rfl) (by exact fun _ _ _ h => h) (Or.inl ⟨by rfl, ?_⟩) hH ?_
          rotate_left
          · (intro wy hSw; (try dsimp only at hSw); go_simp; try (with_reducible rfl))
          try simp only [Act.put, List.setIfInBounds_toArray, List.set_cons_zero, List.set_cons_succ]
          refine wpAnyH_take (i := 14) (v := ?_) (by simp only [List.getElem?_toArray, List.getElem?_cons_succ, List.getElem?_cons_zero]; rfl) (by kernel_rfl) (by kernel_rfl) (by kernel_rfl) (by exact fun _ _ _ h => h) (Or.inl ⟨by rfl, ?_⟩) hH ?_
          rotate_left
          · (intro wy hSw; (try dsimp only at hSw); go_simp; try (with_reducible rfl))
          try simp only [Act.put, List.setIfInBounds_toArray, List.set_cons_zero, List.set_cons_succ]
          refine wpAnyH_ready (rs := [5, 13]) (by kernel_rfl) (by simp) ?_
          refine AllReadyH.cons (by simp only [List.getElem?_toArray, List.getElem?_cons_succ, List.getElem?_cons_zero]; rfl) (fun K hK => ?_) (AllReadyH.cons (by simp only [List.getElem?_toArray, List.getElem?_cons_succ, List.getElem?_cons_zero]; rfl) (fun K hK => ?_) AllReadyH.nil)
          · clear hH
            go_simp
            refine hK.out _ _ ?_ (fun hH => ?_)
            · exact (World.cell?_alloc_lt _ _ _ hrplt).trans e1
            clear hK K
            try simp only [Act.put, List.setIfInBounds_toArray, List.set_cons_zero, List.set_cons_succ]
            refine wpAnyH_ready (rs := [13]) (by kernel_rfl) (by simp) ?_
            refine AllReadyH.cons (by simp only [List.getElem?_toArray, List.getElem?_cons_succ, List.getElem?_cons_zero]; rfl) (fun K hK => ?_) AllReadyH.nil
            clear hH
            go_simp
            refine hK.out _ _ ?_ (fun hH => ?_)
            · exact (World.cell?_alloc_lt _ _ _ hrplt).trans e1
            clear hK K
            try simp only [Act.put, List.setIfInBounds_toArray, List.set_cons_zero, List.set_cons_succ]
            refine wpAnyH_take (i := 15) (v := ?_) (by simp only [List.getElem?_toArray, List.getElem?_cons_succ, List.getElem?_cons_zero]; rfl) (by kernel_rfl) (by kernel_rfl) (by kernel_rfl) (by exact fun _ _ _ h => h) (Or.inl ⟨by rfl, ?_⟩) hH ?_
            rotate_left
            · (intro wy hSw; (try dsimp only at hSw); go_simp; try (with_reducible rfl))
            try simp only [Act.put, List.setIfInBounds_toArray, List.set_cons_zero, List.set_cons_succ]
            refine wpAnyH_ready (rs := [16]) (by kernel_rfl) (by simp) ?_
            refine AllReadyH.cons (by simp only [List.getElem?_toArray, List.getElem?_cons_succ, List.getElem?_cons_zero]; rfl) (fun K hK => ?_) AllReadyH.nil
            clear hH
            refine step_append_onto rfl (.tmp 68) (.tmp 78) _ rfl W2.heap.size 5 i0 _ 1 1 Try.underlying30 hi0 hz0 hz1 hz2 rfl (by omega) (.slice (some ⟨W2.drew.heap.size, 0, none⟩) 0 0) 0 [] rfl (World.ownsRow_made (base := W2.heap.size) (e := 5) (size := 1) W2.drew #[] 0 (Nat.le_refl _) (by simp) (by simp)) (.slice (some ⟨bb, 0, none⟩) N bc) N (cellsOf (xb.take N)) rfl ((HR2.out.sees (fun h => by cases h)).below ((Below.refl W2.heap.size W2).drew.alloc (Nat.le_refl _) _)) (cellsOf_one _) (by simp only [maxLen]; have := HNL.out; omega) (by have := HNL.out; omega) (Below.size ((Below.refl W2.heap.size W2).drew.alloc (Nat.le_refl _) _)) ?_
            intro v3 w3 hown3 honto3
            obtain ⟨a3, c3, rfl, ho3, hb3, hn3⟩ := fresh_row (zs := xb.take N) HR2.out.2.1 (World.ownsRow_made (base := W2.heap.size) (e := 5) (size := 1) W2.drew #[] 0 (Nat.le_refl _) (by simp) (by simp)) hown3 honto3
            have s1 : w3.cell? ⟨g, k * 3 + 1, none⟩ = some (.slice (some ⟨bb, 0, none⟩) L bc) := (hb3.cell (p := ⟨g, k * 3 + 1, none⟩) hglt2).trans e2
            have s1f : w3.frozen? ⟨g, k * 3 + 1, none⟩ = false := (hb3.frozen (p := ⟨g, k * 3 + 1, none⟩) hglt2).trans fr1
            have s2 : w3.cell? ⟨g, k * 3 + 2, none⟩ = some (.int .i64 xs) := (hb3.cell (p := ⟨g, k * 3 + 2, none⟩) hglt2).trans e3
            have s2f : w3.frozen? ⟨g, k * 3 + 2, none⟩ = false := (hb3.frozen (p := ⟨g, k * 3 + 2, none⟩) hglt2).trans fr2
            have s3 : w3.cell? ⟨rp, 1, none⟩ = some (.slice (some ⟨g, 0, none⟩) rs.length lc) := (hb3.cell (p := ⟨rp, 1, none⟩) hrplt).trans e1
            have HO3 := Lib.hid ho3
            have HB3 := Lib.hid hb3
            have HN3 := Lib.hid hn3
            clear ho3 hb3 hn3 hown3 honto3
            refine hK.out _ _ ?_ (fun hH => ?_)
            · exact s3
            clear hK K
            try simp only [Act.put, List.setIfInBounds_toArray, List.set_cons_zero, List.set_cons_succ]
            refine wpAnyH_take (i := 17) (v := ?_) (by simp only [List.getElem?_toArray, List.getElem?_cons_succ, List.getElem?_cons_zero]; rfl) (by kernel_rfl) (by kernel_rfl) (by kernel_rfl) (by exact fun _ _ _ h => h) (Or.inl ⟨by rfl, ?_⟩) hH ?_
            rotate_left
            · (intro wy hSw; (try dsimp only at hSw); go_simp; try (with_reducible rfl))
            try simp only [Act.put, List.setIfInBounds_toArray, List.set_cons_zero, List.set_cons_succ]
            refine wpAnyH_take (i := 18) (v := ?_) (by simp only [List.getElem?_toArray, List.getElem?_cons_succ, List.getElem?_cons_zero]; rfl) (by kernel_rfl) (by kernel_rfl) (by kernel_rfl) (by exact fun _ _ _ h => h) (Or.inl ⟨by rfl, ?_⟩) hH ?_
            rotate_left
            · (intro wy hSw; (try dsimp only at hSw); go_simp; try (with_reducible rfl))
            try simp only [Act.put, List.setIfInBounds_toArray, List.set_cons_zero, List.set_cons_succ]
            refine wpAnyH_ready (rs := [19]) (by kernel_rfl) (by simp) ?_
            refine AllReadyH.cons (by simp only [List.getElem?_toArray, List.getElem?_cons_succ, List.getElem?_cons_zero]; rfl) (fun K hK => ?_) AllReadyH.nil
            clear hH
            go_simp
            refine hK.out _ _ ?_ (fun hH => ?_)
            · exact (World.cell?_setCell_other _ _ _ _ (by simp [hgr])).trans s3
            clear hK K
            try simp only [Act.put, List.setIfInBounds_toArray, List.set_cons_zero, List.set_cons_succ]
            refine wpAnyH_done (by kernel_rfl) ?_ _
            have HFIN : Hid (CrashRel w rp S (.slice (some ⟨g, 0, none⟩) rs.length lc) rs 0 kp (.int .i64 ((k : Int) + 1)) ((w3.setCell ⟨g, k * 3 + 1, none⟩ (.slice a3 N c3)).setCell ⟨g, k * 3 + 2, none⟩ (.int .i64 (N : Int)))) := Lib.hid (crash_step rfl HA2.out (HB.out.trans (But.of_new HB2.out) (fun i _ e => e)) HFT.out HLN.out hlt HX.out HNC.out HLS.out HB3.out HO3.out HN3.out)
            go_wp2_with fail
            go_roundw
            case rel =>
              exact HFIN.out
            case measure => simp [intOf]; omega
          · clear hH
            go_simp
            refine hK.out _ _ ?_ (fun hH => ?_)
            · exact e1
            clear hK K
            try simp only [Act.put, List.setIfInBounds_toArray, List.set_cons_zero, List.set_cons_succ]
            refine wpAnyH_take (i := 15) (v := ?_) (by simp only [List.getElem?_toArray, List.getElem?_cons_succ, List.getElem?_cons_zero]; rfl) (by kernel_rfl) (by kernel_rfl) (by kernel_rfl) (by exact fun _ _ _ h => h) (Or.inl ⟨by rfl, ?_⟩) hH ?_
            rotate_left
            · (intro wy hSw; (try dsimp only at hSw); go_simp; try (with_reducible rfl))
            try simp only [Act.put, List.setIfInBounds_toArray, List.set_cons_zero, List.set_cons_succ]
            refine wpAnyH_ready (rs := [5]) (by kernel_rfl) (by simp) ?_
            refine AllReadyH.cons (by simp only [List.getElem?_toArray, List.getElem?_cons_succ, List.getElem?_cons_zero]; rfl) (fun K hK => ?_) AllReadyH.nil
            clear hH
            go_simp
            refine hK.out _ _ ?_ (fun hH => ?_)
            · exact (World.cell?_alloc_lt _ _ _ hrplt).trans e1
            clear hK K
            try simp only [Act.put, List.setIfInBounds_toArray, List.set_cons_zero, List.set_cons_succ]
            refine wpAnyH_ready (rs := [16]) (by kernel_rfl) (by simp) ?_
            refine AllReadyH.cons (by simp only [List.getElem?_toArray, List.getElem?_cons_succ, List.getElem?_cons_zero]; rfl) (fun K hK => ?_) AllReadyH.nil
            clear hH
            refine step_append_onto rfl (.tmp 68) (.tmp 78) _ rfl W2.heap.size 5 i0 _ 1 1 Try.underlying30 hi0 hz0 hz1 hz2 rfl (by omega) (.slice (some ⟨W2.drew.heap.size, 0, none⟩) 0 0) 0 [] rfl (World.ownsRow_made (base := W2.heap.size) (e := 5) (size := 1) W2.drew #[] 0 (Nat.le_refl _) (by simp) (by simp)) (.slice (some ⟨bb, 0, none⟩) N bc) N (cellsOf (xb.take N)) rfl ((HR2.out.sees (fun h => by cases h)).below ((Below.refl W2.heap.size W2).drew.alloc (Nat.le_refl _) _)) (cellsOf_one _) (by simp only [maxLen]; have := HNL.out; omega) (by have := HNL.out; omega) (Below.size ((Below.refl W2.heap.size W2).drew.alloc (Nat.le_refl _) _)) ?_
            intro v3 w3 hown3 honto3
            obtain ⟨a3, c3, rfl, ho3, hb3, hn3⟩ := fresh_row (zs := xb.take N) HR2.out.2.1 (World.ownsRow_made (base := W2.heap.size) (e := 5) (size := 1) W2.drew #[] 0 (Nat.le_refl _) (by simp) (by simp)) hown3 honto3
            have s1 : w3.cell? ⟨g, k * 3 + 1, none⟩ = some (.slice (some ⟨bb, 0, none⟩) L bc) := (hb3.cell (p := ⟨g, k * 3 + 1, none⟩) hglt2).trans e2
            have s1f : w3.frozen? ⟨g, k * 3 + 1, none⟩ = false := (hb3.frozen (p := ⟨g, k * 3 + 1, none⟩) hglt2).trans fr1
            have s2 : w3.cell? ⟨g, k * 3 + 2, none⟩ = some (.int .i64 xs) := (hb3.cell (p := ⟨g, k * 3 + 2, none⟩) hglt2).trans e3
            have s2f : w3.frozen? ⟨g, k * 3 + 2, none⟩ = false := (hb3.frozen (p := ⟨g, k * 3 + 2, none⟩) hglt2).trans fr2
            have s3 : w3.cell? ⟨rp, 1, none⟩ = some (.slice (some ⟨g, 0, none⟩) rs.length lc) := (hb3.cell (p := ⟨rp, 1, none⟩) hrplt).trans e1
            have HO3 := Lib.hid ho3
            have HB3 := Lib.hid hb3
            have HN3 := Lib.hid hn3
            clear ho3 hb3 hn3 hown3 honto3
            refine hK.out _ _ ?_ (fun hH => ?_)
            · exact s3
            clear hK K
            try simp only [Act.put, List.setIfInBounds_toArray, List.set_cons_zero, List.set_cons_succ]
            refine wpAnyH_take (i := 17) (v := ?_) (by simp only [List.getElem?_toArray, List.getElem?_cons_succ, List.getElem?_cons_zero]; rfl) (by kernel_rfl) (by kernel_rfl) (by kernel_rfl) (by exact fun _ _ _ h => h) (Or.inl ⟨by rfl, ?_⟩) hH ?_
            rotate_left
            · (intro wy hSw; (try dsimp only at hSw); go_simp; try (with_reducible rfl))
            try simp only [Act.put, List.setIfInBounds_toArray, List.set_cons_zero, List.set_cons_succ]
            refine wpAnyH_take (i := 18) (v := ?_) (by simp only [List.getElem?_toArray, List.getElem?_cons_succ, List.getElem?_cons_zero]; rfl) (by kernel_rfl) (by kernel_rfl) (by kernel_rfl) (by exact fun _ _ _ h => h) (Or.inl ⟨by rfl, ?_⟩) hH ?_
            rotate_left
            · (intro wy hSw; (try dsimp only at hSw); go_simp; try (with_reducible rfl))
            try simp only [Act.put, List.setIfInBounds_toArray, List.set_cons_zero, List.set_cons_succ]
            refine wpAnyH_ready (rs := [19]) (by kernel_rfl) (by simp) ?_
            refine AllReadyH.cons (by simp only [List.getElem?_toArray, List.getElem?_cons_succ, List.getElem?_cons_zero]; rfl) (fun K hK => ?_) AllReadyH.nil
            clear hH
            go_simp
            refine hK.out _ _ ?_ (fun hH => ?_)
            · exact (World.cell?_setCell_other _ _ _ _ (by simp [hgr])).trans s3
            clear hK K
            try simp only [Act.put, List.setIfInBounds_toArray, List.set_cons_zero, List.set_cons_succ]
            refine wpAnyH_done (by kernel_rfl) ?_ _
            have HFIN : Hid (CrashRel w rp S (.slice (some ⟨g, 0, none⟩) rs.length lc) rs 0 kp (.int .i64 ((k : Int) + 1)) ((w3.setCell ⟨g, k * 3 + 1, none⟩ (.slice a3 N c3)).setCell ⟨g, k * 3 + 2, none⟩ (.int .i64 (N : Int)))) := Lib.hid (crash_step rfl HA2.out (HB.out.trans (But.of_new HB2.out) (fun i _ e => e)) HFT.out HLN.out hlt HX.out HNC.out HLS.out HB3.out HO3.out HN3.out)
            go_wp2_with fail
            go_roundw
            case rel =>
              exact HFIN.out
            case measure => simp [intOf]; omega
      · have hkd : decide (kp < (L : Int) - (xs : Int)) = false := by simpa using hkc
        have hq4 : (L : Int) - (xs : Int) + (xs : Int) = (L : Int) := by omega
        go_wp2_with fail
        go_quiet (fail)
        go_wp2_with fail
        have HNC : Hid (L = cutTo kp ⟨xb, xs⟩) := Lib.hid (by unfold cutTo; rw [← HLL.out]; simp only; omega)
        have HNL : Hid (L ≤ L) := Lib.hid (Nat.le_refl _)
        clear hq4
        obtain ⟨W2, hW2⟩ : ∃ W2, W2 = wr.drewN nq := ⟨_, rfl⟩
        have hb2 : Below wr.heap.size wr W2 := by rw [hW2]; exact ⟨rfl, rfl, rfl, Nat.le_refl _, fun _ _ => rfl⟩
        have hs2 : W2.heap.size = wr.heap.size := by rw [hW2]; rfl
        rw [← hW2]
        clear hW2
        have hA2 : RAt W2 rp (mixS kp S k) (.slice (some ⟨g, 0, none⟩) rs.length lc) rs' true 0 kp := HA.out.but (But.of_below hb2) (fun j hj hge => by have := HA.out.lt j hj; omega)
        have e1 : W2.cell? ⟨rp, 1, none⟩ = some (.slice (some ⟨g, 0, none⟩) rs.length lc) := hA2.blk.cell 1
        have e2 : W2.cell? ⟨g, k * 3 + 1, none⟩ = some (.slice ba L bc) := (hb2.cell (p := ⟨g, k * 3 + 1, none⟩) hglt).trans k1
        have e3 : W2.cell? ⟨g, k * 3 + 2, none⟩ = some (.int .i64 xs) := (hb2.cell (p := ⟨g, k * 3 + 2, none⟩) hglt).trans k2
        have fr1 : W2.frozen? ⟨g, k * 3 + 1, none⟩ = false := (hb2.frozen (p := ⟨g, k * 3 + 1, none⟩) hglt).trans (hfr _)
        have fr2 : W2.frozen? ⟨g, k * 3 + 2, none⟩ = false := (hb2.frozen (p := ⟨g, k * 3 + 2, none⟩) hglt).trans (hfr _)
        have hglt2 : g < W2.heap.size := by omega
        have hrplt := hA2.blk.lt
        have HA2 := Lib.hid hA2
        have HB2 := Lib.hid hb2
        have HS2 := Lib.hid hs2
        have HR2 := Lib.hid (row_taken (n := L) (HR.out.below hb2) HNL.out)
        clear hb2 hs2 hA2 d1 d5 k0 k1 k2
        rcases hbsh with ⟨rfl, rfl, hxb⟩ | ⟨bb, rfl⟩
        · have hL0 : L = 0 := by rw [HLL.out, hxb]; rfl
          have HR3 := Lib.hid HR2.out
          subst hL0
          clear hxb hbcm hlbc hkc hkd q1 q2 q3
          have hgr : g ≠ rp := by
            intro e
            have h1 := HA2.out.blk
            rcases HA2.out.row.2 with ⟨h2, _⟩ | ⟨g', cap', cur, h2, _, h3, _⟩
            · cases h2
            · injection h2 with h2
              injection h2 with h2
              injection h2 with h2
              subst h2
              exact Blk.ne_ h1 (t' := 46) h3 (by decide) e.symm
          refine wp_region_held_drew (S := (fun w' => w'.cell? ⟨rp, 1, none⟩ = some (.slice (some ⟨g, 0, none⟩) rs.length lc))) (by kernel_rfl) ?_ (fun hH => ?_)
          · exact e1
          refine wpAnyH_take (i := 0) (v := ?_) (by simp only [List.getElem?_toArray, List.getElem?_cons_succ, List.getElem?_cons_zero]; rfl) (by kernel_rfl) (by kernel_rfl) (by kernel_rfl) (by exact fun _ _ _ h => h) (Or.inl ⟨by rfl, ?_⟩) hH ?_
          rotate_left
          · (intro wy hSw; (try dsimp only at hSw); go_simp; try (with_reducible rfl))
          try simp only [Act.put, List.setIfInBounds_toArray, List.set_cons_zero, List.set_cons_succ]
          refine wpAnyH_take (i := 1) (v := ?_) (by simp only [List.getElem?_toArray, List.getElem?_cons_succ, List.getElem?_cons_zero]; rfl) (by kernel_rfl) (by kernel_rfl) (by kernel_rfl) (by exact fun _ _ _ h => h) (Or.inl ⟨by rfl, ?_⟩) hH ?_
          rotate_left
          · (intro wy hSw; (try dsimp only at hSw); go_simp; try (with_reducible rfl))
          try simp only [Act.put, List.setIfInBounds_toArray, List.set_cons_zero, List.set_cons_succ]
          refine wpAnyH_take (i := 2) (v := ?_) (by simp only [List.getElem?_toArray, List.getElem?_cons_succ, List.getElem?_cons_zero]; rfl) (by kernel_rfl) (by kernel_rfl) (by kernel_rfl) (by exact fun _ _ _ h => h) (Or.inl ⟨by rfl, ?_⟩) hH ?_
          rotate_left
          · (intro wy hSw; (try dsimp only at hSw); go_simp; try (with_reducible rfl))
          try simp only [Act.put, List.setIfInBounds_toArray, List.set_cons_zero, List.set_cons_succ]
          refine wpAnyH_take (i := 3) (v := ?_) (by simp only [List.getElem?_toArray, List.getElem?_cons_succ, List.getElem?_cons_zero]; rfl) (by kernel_rfl) (by kernel_rfl) (by kernel_rfl) (by exact fun _ _ _ h => h) (Or.inl ⟨by rfl, ?_⟩) hH ?_
          rotate_left
          · (intro wy hSw; (try dsimp only at hSw); go_simp; try (with_reducible rfl))
          try simp only [Act.put, List.setIfInBounds_toArray, List.set_cons_zero, List.set_cons_succ]
          refine wpAnyH_take (i := 4) (v := ?_) (by simp only [List.getElem?_toArray, List.getElem?_cons_succ, List.getElem?_cons_zero]; rfl) (by kernel_rfl) (by kernel_rfl) (by kernel_rfl) (by exact fun _ _ _ h => h) (Or.inl ⟨by rfl, ?_⟩) hH ?_
          rotate_left
          · (intro wy hSw; (try dsimp only at hSw); go_simp; try (with_reducible rfl))
          try simp only [Act.put, List.setIfInBounds_toArray, List.set_cons_zero, List.set_cons_succ]
          refine wpAnyH_take (i := 6) (v := ?_) (by simp only [List.getElem?_toArray, List.getElem?_cons_succ, List.getElem?_cons_zero]; rfl) (by kernel_rfl) (by kernel_rfl) (by kernel_rfl) (by exact fun _ _ _ h => h) (Or.inl ⟨by rfl, ?_⟩) hH ?_
          rotate_left
          · (intro wy hSw; (try dsimp only at hSw); go_simp; try (with_reducible rfl))
          try simp only [Act.put, List.setIfInBounds_toArray, List.set_cons_zero, List.set_cons_succ]
          refine wpAnyH_take (i := 7) (v := ?_) (by simp only [List.getElem?_toArray, List.getElem?_cons_succ, List.getElem?_cons_zero]; rfl) (by kernel_rfl) (by kernel_rfl) (by kernel_rfl) (by exact fun _ _ _ h => h) (Or.inl ⟨by rfl, ?_⟩) hH ?_
          rotate_left
          · (intro wy hSw; (try dsimp only at hSw); go_simp; try (with_reducible rfl))
          try simp only [Act.put, List.setIfInBounds_toArray, List.set_cons_zero, List.set_cons_succ]
          refine wpAnyH_take (i := 8) (v := ?_) (by simp only [List.getElem?_toArray, List.getElem?_cons_succ, List.getElem?_cons_zero]; rfl) (by kernel_rfl) (by kernel_rfl) (by kernel_rfl) (by exact fun _ _ _ h => h) (Or.inl ⟨by rfl, ?_⟩) hH ?_
          rotate_left
          · (intro wy hSw; (try dsimp only at hSw); go_simp; try (with_reducible rfl))
          try simp only [Act.put, List.setIfInBounds_toArray, List.set_cons_zero, List.set_cons_succ]
          refine wpAnyH_take (i := 9) (v := ?_) (by simp only [List.getElem?_toArray, List.getElem?_cons_succ, List.getElem?_cons_zero]; rfl) (by kernel_rfl) (by kernel_rfl) (by kernel_rfl) (by exact fun _ _ _ h => h) (Or.inl ⟨by rfl, ?_⟩) hH ?_
          rotate_left
          · (intro wy hSw; (try dsimp only at hSw); go_simp; try (with_reducible rfl))
          try simp only [Act.put, List.setIfInBounds_toArray, List.set_cons_zero, List.set_cons_succ]
          refine wpAnyH_take (i := 10) (v := ?_) (by simp only [List.getElem?_toArray, List.getElem?_cons_succ, List.getElem?_cons_zero]; rfl) (by kernel_rfl) (by kernel_rfl) (by kernel_rfl) (by exact fun _ _ _ h => h) (Or.inl ⟨by rfl, ?_⟩) hH ?_
          rotate_left
          · (intro wy hSw; (try dsimp only at hSw); go_simp; try (with_reducible rfl))
          try simp only [Act.put, List.setIfInBounds_toArray, List.set_cons_zero, List.set_cons_succ]
          refine wpAnyH_take (i := 11) (v := ?_) (by simp only [List.getElem?_toArray, List.getElem?_cons_succ, List.getElem?_cons_zero]; rfl) (by kernel_rfl) (by kernel_rfl) (by kernel_rfl) (by exact fun _ _ _ h => h) (Or.inl ⟨by rfl, ?_⟩) hH ?_
          rotate_left
          · (intro wy hSw; (try dsimp only at hSw); go_simp; try (with_reducible rfl))
          try simp only [Act.put, List.setIfInBounds_toArray, List.set_cons_zero, List.set_cons_succ]
          refine wpAnyH_take (i := 12) (v := ?_) (by simp only [List.getElem?_toArray, List.getElem?_cons_succ, List.getElem?_cons_zero]; rfl) (by kernel_rfl) (by kernel_rfl) (by kernel_rfl) (by exact fun _ _ _ h => h) (Or.inl ⟨by rfl, ?_⟩) hH ?_
          rotate_left
          · (intro wy hSw; (try dsimp only at hSw); go_simp; try (with_reducible rfl))
          try simp only [Act.put, List.setIfInBounds_toArray, List.set_cons_zero, List.set_cons_succ]
          refine wpAnyH_take (i := 14) (v := ?_) (by simp only [List.getElem?_toArray, List.getElem?_cons_succ, List.getElem?_cons_zero]; rfl) (by kernel_rfl) (by kernel_rfl) (by kernel_rfl) (by exact fun _ _ _ h => h) (Or.inl ⟨by rfl, ?_⟩) hH ?_
          rotate_left
          · (intro wy hSw; (try dsimp only at hSw); go_simp; try (with_reducible rfl))
          try simp only [Act.put, List.setIfInBounds_toArray, List.set_cons_zero, List.set_cons_succ]
          refine wpAnyH_ready (rs := [5, 13]) (by kernel_rfl) (by simp) ?_
          refine AllReadyH.cons (by simp only [List.getElem?_toArray, List.getElem?_cons_succ, List.getElem?_cons_zero]; rfl) (fun K hK => ?_) (AllReadyH.cons (by simp only [List.getElem?_toArray, List.getElem?_cons_succ, List.getElem?_cons_zero]; rfl) (fun K hK => ?_) AllReadyH.nil)
          · clear hH
            go_simp
            refine hK.out _ _ ?_ (fun hH => ?_)
            · exact (World.cell?_alloc_lt _ _ _ hrplt).trans e1
            clear hK K
            try simp only [Act.put, List.setIfInBounds_toArray, List.set_cons_zero, List.set_cons_succ]
            refine wpAnyH_ready (rs := [13]) (by kernel_rfl) (by simp) ?_
            refine AllReadyH.cons (by simp only [List.getElem?_toArray, List.getElem?_cons_succ, List.getElem?_cons_zero]; rfl) (fun K hK => ?_) AllReadyH.nil
            clear hH
            go_simp
            refine hK.out _ _ ?_ (fun hH => ?_)
            · exact (World.cell?_alloc_lt _ _ _ hrplt).trans e1
            clear hK K
            try simp only [Act.put, List.setIfInBounds_toArray, List.set_cons_zero, List.set_cons_succ]
            refine wpAnyH_take (i := 15) (v := ?_) (by simp only [List.getElem?_toArray, List.getElem?_cons_succ, List.getElem?_cons_zero]; rfl) (by kernel_rfl) (by kernel_rfl) (by kernel_rfl) (by exact fun _ _ _ h => h) (Or.inl ⟨by rfl, ?_⟩) hH ?_
            rotate_left
            · (intro wy hSw; (try dsimp only at hSw); go_simp; try (with_reducible rfl))
            try simp only [Act.put, List.setIfInBounds_toArray, List.set_cons_zero, List.set_cons_succ]
            refine wpAnyH_ready (rs := [16]) (by kernel_rfl) (by simp) ?_
            refine AllReadyH.cons (by simp only [List.getElem?_toArray, List.getElem?_cons_succ, List.getElem?_cons_zero]; rfl) (fun K hK => ?_) AllReadyH.nil
            clear hH
            refine step_append_onto rfl (.tmp 68) (.tmp 78) _ rfl W2.heap.size 5 i0 _ 1 1 Try.underlying30 hi0 hz0 hz1 hz2 rfl (by omega) (.slice (some ⟨W2.drew.heap.size, 0, none⟩) 0 0) 0 [] rfl (World.ownsRow_made (base := W2.heap.size) (e := 5) (size := 1) W2.drew #[] 0 (Nat.le_refl _) (by simp) (by simp)) (.slice none 0 0) 0 (cellsOf (xb.take 0)) rfl ((HR2.out.sees (fun h => rfl)).below ((Below.refl W2.heap.size W2).drew.alloc (Nat.le_refl _) _)) (cellsOf_one _) (by simp only [maxLen]; have := HNL.out; omega) (by have := HNL.out; omega) (Below.size ((Below.refl W2.heap.size W2).drew.alloc (Nat.le_refl _) _)) ?_
            intro v3 w3 hown3 honto3
            obtain ⟨a3, c3, rfl, ho3, hb3, hn3⟩ := fresh_row (zs := xb.take 0) HR2.out.2.1 (World.ownsRow_made (base := W2.heap.size) (e := 5) (size := 1) W2.drew #[] 0 (Nat.le_refl _) (by simp) (by simp)) hown3 honto3
            have s1 : w3.cell? ⟨g, k * 3 + 1, none⟩ = some (.slice none 0 0) := (hb3.cell (p := ⟨g, k * 3 + 1, none⟩) hglt2).trans e2
            have s1f : w3.frozen? ⟨g, k * 3 + 1, none⟩ = false := (hb3.frozen (p := ⟨g, k * 3 + 1, none⟩) hglt2).trans fr1
            have s2 : w3.cell? ⟨g, k * 3 + 2, none⟩ = some (.int .i64 xs) := (hb3.cell (p := ⟨g, k * 3 + 2, none⟩) hglt2).trans e3
            have s2f : w3.frozen? ⟨g, k * 3 + 2, none⟩ = false := (hb3.frozen (p := ⟨g, k * 3 + 2, none⟩) hglt2).trans fr2
            have s3 : w3.cell? ⟨rp, 1, none⟩ = some (.slice (some ⟨g, 0, none⟩) rs.length lc) := (hb3.cell (p := ⟨rp, 1, none⟩) hrplt).trans e1
            have HO3 := Lib.hid ho3
            have HB3 := Lib.hid hb3
            have HN3 := Lib.hid hn3
            clear ho3 hb3 hn3 hown3 honto3
            refine hK.out _ _ ?_ (fun hH => ?_)
            · exact s3
            clear hK K
            try simp only [Act.put, List.setIfInBounds_toArray, List.set_cons_zero, List.set_cons_succ]
            refine wpAnyH_take (i := 17) (v := ?_) (by simp only [List.getElem?_toArray, List.getElem?_cons_succ, List.getElem?_cons_zero]; rfl) (by kernel_rfl) (by kernel_rfl) (by kernel_rfl) (by exact fun _ _ _ h => h) (Or.inl ⟨by rfl, ?_⟩) hH ?_
            rotate_left
            · (intro wy hSw; (try dsimp only at hSw); go_simp; try (with_reducible rfl))
            try simp only [Act.put, List.setIfInBounds_toArray, List.set_cons_zero, List.set_cons_succ]
            refine wpAnyH_take (i := 18) (v := ?_) (by simp only [List.getElem?_toArray, List.getElem?_cons_succ, List.getElem?_cons_zero]; rfl) (by kernel_rfl) (by kernel_rfl) (by kernel_rfl) (by exact fun _ _ _ h => h) (Or.inl ⟨by rfl, ?_⟩) hH ?_
            rotate_left
            · (intro wy hSw; (try dsimp only at hSw); go_simp; try (with_reducible rfl))
            try simp only [Act.put, List.setIfInBounds_toArray, List.set_cons_zero, List.set_cons_succ]
            refine wpAnyH_ready (rs := [19]) (by kernel_rfl) (by simp) ?_
            refine AllReadyH.cons (by simp only [List.getElem?_toArray, List.getElem?_cons_succ, List.getElem?_cons_zero]; rfl) (fun K hK => ?_) AllReadyH.nil
            clear hH
            go_simp
            refine hK.out _ _ ?_ (fun hH => ?_)
            · exact (World.cell?_setCell_other _ _ _ _ (by simp [hgr])).trans s3
            clear hK K
            try simp only [Act.put, List.setIfInBounds_toArray, List.set_cons_zero, List.set_cons_succ]
            refine wpAnyH_done (by kernel_rfl) ?_ _
            have HFIN : Hid (CrashRel w rp S (.slice (some ⟨g, 0, none⟩) rs.length lc) rs 0 kp (.int .i64 ((k : Int) + 1)) ((w3.setCell ⟨g, k * 3 + 1, none⟩ (.slice a3 0 c3)).setCell ⟨g, k * 3 + 2, none⟩ (.int .i64 (0 : Int)))) := Lib.hid (crash_step rfl HA2.out (HB.out.trans (But.of_new HB2.out) (fun i _ e => e)) HFT.out HLN.out hlt HX.out HNC.out HLS.out HB3.out HO3.out HN3.out)
            go_wp2_with fail
            go_roundw
            case rel =>
              exact HFIN.out
            case measure => simp [intOf]; omega
          · clear hH
            go_simp
            refine hK.out _ _ ?_ (fun hH => ?_)
            · exact e1
            clear hK K
            try simp only [Act.put, List.setIfInBounds_toArray, List.set_cons_zero, List.set_cons_succ]
            refine wpAnyH_take (i := 15) (v := ?_) (by simp only [List.getElem?_toArray, List.getElem?_cons_succ, List.getElem?_cons_zero]; rfl) (by kernel_rfl) (by kernel_rfl) (by kernel_rfl) (by exact fun _ _ _ h => h) (Or.inl ⟨by rfl, ?_⟩) hH ?_
            rotate_left
            · (intro wy hSw; (try dsimp only at hSw); go_simp; try (with_reducible rfl))
            try simp only [Act.put, List.setIfInBounds_toArray, List.set_cons_zero, List.set_cons_succ]
            refine wpAnyH_ready (rs := [5]) (by kernel_rfl) (by simp) ?_
            refine AllReadyH.cons (by simp only [List.getElem?_toArray, List.getElem?_cons_succ, List.getElem?_cons_zero]; rfl) (fun K hK => ?_) AllReadyH.nil
            clear hH
            go_simp
            refine hK.out _ _ ?_ (fun hH => ?_)
            · exact (World.cell?_alloc_lt _ _ _ hrplt).trans e1
            clear hK K
            try simp only [Act.put, List.setIfInBounds_toArray, List.set_cons_zero, List.set_cons_succ]
            refine wpAnyH_ready (rs := [16]) (by kernel_rfl) (by simp) ?_
            refine AllReadyH.cons (by simp only [List.getElem?_toArray, List.getElem?_cons_succ, List.getElem?_cons_zero]; rfl) (fun K hK => ?_) AllReadyH.nil
            clear hH
            refine step_append_onto rfl (.tmp 68) (.tmp 78) _ rfl W2.heap.size 5 i0 _ 1 1 Try.underlying30 hi0 hz0 hz1 hz2 rfl (by omega) (.slice (some ⟨W2.drew.heap.size, 0, none⟩) 0 0) 0 [] rfl (World.ownsRow_made (base := W2.heap.size) (e := 5) (size := 1) W2.drew #[] 0 (Nat.le_refl _) (by simp) (by simp)) (.slice none 0 0) 0 (cellsOf (xb.take 0)) rfl ((HR2.out.sees (fun h => rfl)).below ((Below.refl W2.heap.size W2).drew.alloc (Nat.le_refl _) _)) (cellsOf_one _) (by simp only [maxLen]; have := HNL.out; omega) (by have := HNL.out; omega) (Below.size ((Below.refl W2.heap.size W2).drew.alloc (Nat.le_refl _) _)) ?_
            intro v3 w3 hown3 honto3
            obtain ⟨a3, c3, rfl, ho3, hb3, hn3⟩ := fresh_row (zs := xb.take 0) HR2.out.2.1 (World.ownsRow_made (base := W2.heap.size) (e := 5) (size := 1) W2.drew #[] 0 (Nat.le_refl _) (by simp) (by simp)) hown3 honto3
            have s1 : w3.cell? ⟨g, k * 3 + 1, none⟩ = some (.slice none 0 0) := (hb3.cell (p := ⟨g, k * 3 + 1, none⟩) hglt2).trans e2
            have s1f : w3.frozen? ⟨g, k * 3 + 1, none⟩ = false := (hb3.frozen (p := ⟨g, k * 3 + 1, none⟩) hglt2).trans fr1
            have s2 : w3.cell? ⟨g, k * 3 + 2, none⟩ = some (.int .i64 xs) := (hb3.cell (p := ⟨g, k * 3 + 2, none⟩) hglt2).trans e3
            have s2f : w3.frozen? ⟨g, k * 3 + 2, none⟩ = false := (hb3.frozen (p := ⟨g, k * 3 + 2, none⟩) hglt2).trans fr2
            have s3 : w3.cell? ⟨rp, 1, none⟩ = some (.slice (some ⟨g, 0, none⟩) rs.length lc) := (hb3.cell (p := ⟨rp, 1, none⟩) hrplt).trans e1
            have HO3 := Lib.hid ho3
            have HB3 := Lib.hid hb3
            have HN3 := Lib.hid hn3
            clear ho3 hb3 hn3 hown3 honto3
            refine hK.out _ _ ?_ (fun hH => ?_)
            · exact s3
            clear hK K
            try simp only [Act.put, List.setIfInBounds_toArray, List.set_cons_zero, List.set_cons_succ]
            refine wpAnyH_take (i := 17) (v := ?_) (by simp only [List.getElem?_toArray, List.getElem?_cons_succ, List.getElem?_cons_zero]; rfl) (by kernel_rfl) (by kernel_rfl) (by kernel_rfl) (by exact fun _ _ _ h => h) (Or.inl ⟨by rfl, ?_⟩) hH ?_
            rotate_left
            · (intro wy hSw; (try dsimp only at hSw); go_simp; try (with_reducible rfl))
            try simp only [Act.put, List.setIfInBounds_toArray, List.set_cons_zero, List.set_cons_succ]
            refine wpAnyH_take (i := 18) (v := ?_) (by simp only [List.getElem?_toArray, List.getElem?_cons_succ, List.getElem?_cons_zero]; rfl) (by kernel_rfl) (by kernel_rfl) (by kernel_rfl) (by exact fun _ _ _ h => h) (Or.inl ⟨by rfl, ?_⟩) hH ?_
            rotate_left
            · (intro wy hSw; (try dsimp only at hSw); go_simp; try (with_reducible rfl))
            try simp only [Act.put, List.setIfInBounds_toArray, List.set_cons_zero, List.set_cons_succ]
            refine wpAnyH_ready (rs := [19]) (by kernel_rfl) (by simp) ?_
            refine AllReadyH.cons (by simp only [List.getElem?_toArray, List.getElem?_cons_succ, List.getElem?_cons_zero]; rfl) (fun K hK => ?_) AllReadyH.nil
            clear hH
            go_simp
            refine hK.out _ _ ?_ (fun hH => ?_)
            · exact (World.cell?_setCell_other _ _ _ _ (by simp [hgr])).trans s3
            clear hK K
            try simp only [Act.put, List.setIfInBounds_toArray, List.set_cons_zero, List.set_cons_succ]
            refine wpAnyH_done (by kernel_rfl) ?_ _
            have HFIN : Hid (CrashRel w rp S (.slice (some ⟨g, 0, none⟩) rs.length lc) rs 0 kp (.int .i64 ((k : Int) + 1)) ((w3.setCell ⟨g, k * 3 + 1, none⟩ (.slice a3 0 c3)).setCell ⟨g, k * 3 + 2, none⟩ (.int .i64 (0 : Int)))) := Lib.hid (crash_step rfl HA2.out (HB.out.trans (But.of_new HB2.out) (fun i _ e => e)) HFT.out HLN.out hlt HX.out HNC.out HLS.out HB3.out HO3.out HN3.out)
            go_wp2_with fail
            go_roundw
            case rel =>
              exact HFIN.out
            case measure => simp [intOf]; omega
        · have u1 : (L : Int) ≤ (bc : Int) := by have := HNL.out; omega
          have u2 : (bc : Int) ≤ 9223372036854775807 := by have : bc ≤ 9223372036854775807 := hbcm; omega
          have HBC := Lib.hid hbcm
          clear hbcm hlbc
          have hgr : g ≠ rp := by
            intro e
            have h1 := HA2.out.blk
            rcases HA2.out.row.2 with ⟨h2, _⟩ | ⟨g', cap', cur, h2, _, h3, _⟩
            · cases h2
            · injection h2 with h2
              injection h2 with h2
              injection h2 with h2
              subst h2
              exact Blk.ne_ h1 (t' := 46) h3 (by decide) e.symm
          refine wp_region_held_drew (S := (fun w' => w'.cell? ⟨rp, 1, none⟩ = some (.slice (some ⟨g, 0, none⟩) rs.length lc))) (by kernel_rfl) ?_ (fun hH => ?_)
          · exact e1
          refine wpAnyH_take (i := 0) (v := ?_) (by simp only [List.getElem?_toArray, List.getElem?_cons_succ, List.getElem?_cons_zero]; rfl) (by kernel_rfl) (by kernel_rfl) (by kernel_rfl) (by exact fun _ _ _ h => h) (Or.inl ⟨by rfl, ?_⟩) hH ?_
          rotate_left
          · (intro wy hSw; (try dsimp only at hSw); go_simp; try (with_reducible rfl))
          try simp only [Act.put, List.setIfInBounds_toArray, List.set_cons_zero, List.set_cons_succ]
          refine wpAnyH_take (i := 1) (v := ?_) (by simp only [List.getElem?_toArray, List.getElem?_cons_succ, List.getElem?_cons_zero]; rfl) (by kernel_rfl) (by kernel_rfl) (by kernel_rfl) (by exact fun _ _ _ h => h) (Or.inl ⟨by rfl, ?_⟩) hH ?_
          rotate_left
          · (intro wy hSw; (try dsimp only at hSw); go_simp; try (with_reducible rfl))
          try simp only [Act.put, List.setIfInBounds_toArray, List.set_cons_zero, List.set_cons_succ]
          refine wpAnyH_take (i := 2) (v := ?_) (by simp only [List.getElem?_toArray, List.getElem?_cons_succ, List.getElem?_cons_zero]; rfl) (by kernel_rfl) (by kernel_rfl) (by kernel_rfl) (by exact fun _ _ _ h => h) (Or.inl ⟨by rfl, ?_⟩) hH ?_
          rotate_left
          · (intro wy hSw; (try dsimp only at hSw); go_simp; try (with_reducible rfl))
          try simp only [Act.put, List.setIfInBounds_toArray, List.set_cons_zero, List.set_cons_succ]
          refine wpAnyH_take (i := 3) (v := ?_) (by simp only [List.getElem?_toArray, List.getElem?_cons_succ, List.getElem?_cons_zero]; rfl) (by kernel_rfl) (by kernel_rfl) (by kernel_rfl) (by exact fun _ _ _ h => h) (Or.inl ⟨by rfl, ?_⟩) hH ?_
          rotate_left
          · (intro wy hSw; (try dsimp only at hSw); go_simp; try (with_reducible rfl))
          try simp only [Act.put, List.setIfInBounds_toArray, List.set_cons_zero, List.set_cons_succ]
          refine wpAnyH_take (i := 4) (v := ?_) (by simp only [List.getElem?_toArray, List.getElem?_cons_succ, List.getElem?_cons_zero]; rfl) (by kernel_rfl) (by kernel_rfl) (by kernel_rfl) (by exact fun _ _ _ h => h) (Or.inl ⟨by rfl, ?_⟩) hH ?_
          rotate_left
          · (intro wy hSw; (try dsimp only at hSw); go_simp; try (with_reducible rfl))
          try simp only [Act.put, List.setIfInBounds_toArray, List.set_cons_zero, List.set_cons_succ]
          refine wpAnyH_take (i := 6) (v := ?_) (by simp only [List.getElem?_toArray, List.getElem?_cons_succ, List.getElem?_cons_zero]; rfl) (by kernel_rfl) (by kernel_rfl) (by kernel_rfl) (by exact fun _ _ _ h => h) (Or.inl ⟨by rfl, ?_⟩) hH ?_
          rotate_left
          · (intro wy hSw; (try dsimp only at hSw); go_simp; try (with_reducible rfl))
          try simp only [Act.put, List.setIfInBounds_toArray, List.set_cons_zero, List.set_cons_succ]
          refine wpAnyH_take (i := 7) (v := ?_) (by simp only [List.getElem?_toArray, List.getElem?_cons_succ, List.getElem?_cons_zero]; rfl) (by kernel_rfl) (by kernel_rfl) (by kernel_rfl) (by exact fun _ _ _ h => h) (Or.inl ⟨by rfl, ?_⟩) hH ?_
          rotate_left
          · (intro wy hSw; (try dsimp only at hSw); go_simp; try (with_reducible rfl))
          try simp only [Act.put, List.setIfInBounds_toArray, List.set_cons_zero, List.set_cons_succ]
          refine wpAnyH_take (i := 8) (v := ?_) (by simp only [List.getElem?_toArray, List.getElem?_cons_succ, List.getElem?_cons_zero]; rfl) (by kernel_rfl) (by kernel_rfl) (by kernel_rfl) (by exact fun _ _ _ h => h) (Or.inl ⟨by rfl, ?_⟩) hH ?_
          rotate_left
          · (intro wy hSw; (try dsimp only at hSw); go_simp; try (with_reducible rfl))
          try simp only [Act.put, List.setIfInBounds_toArray, List.set_cons_zero, List.set_cons_succ]
          refine wpAnyH_take (i := 9) (v := ?_) (by simp only [List.getElem?_toArray, List.getElem?_cons_succ, List.getElem?_cons_zero]; rfl) (by kernel_rfl) (by kernel_rfl) (by kernel_rfl) (by exact fun _ _ _ h => h) (Or.inl ⟨by rfl, ?_⟩) hH ?_
          rotate_left
          · (intro wy hSw; (try dsimp only at hSw); go_simp; try (with_reducible rfl))
          try simp only [Act.put, List.setIfInBounds_toArray, List.set_cons_zero, List.set_cons_succ]
          refine wpAnyH_take (i := 10) (v := ?_) (by simp only [List.getElem?_toArray, List.getElem?_cons_succ, List.getElem?_cons_zero]; rfl) (by kernel_rfl) (by kernel_rfl) (by kernel_rfl) (by exact fun _ _ _ h => h) (Or.inl ⟨by rfl, ?_⟩) hH ?_
          rotate_left
          · (intro wy hSw; (try dsimp only at hSw); go_simp; try (with_reducible rfl))
          try simp only [Act.put, List.setIfInBounds_toArray, List.set_cons_zero, List.set_cons_succ]
          refine wpAnyH_take (i := 11) (v := ?_) (by simp only [List.getElem?_toArray, List.getElem?_cons_succ, List.getElem?_cons_zero]; rfl) (by kernel_rfl) (by kernel_rfl) (by kernel_rfl) (by exact fun _ _ _ h => h) (Or.inl ⟨by rfl, ?_⟩) hH ?_
          rotate_left
          · (intro wy hSw; (try dsimp only at hSw); go_simp; try (with_reducible rfl))
          try simp only [Act.put, List.setIfInBounds_toArray, List.set_cons_zero, List.set_cons_succ]
          refine wpAnyH_take (i := 12) (v := ?_) (by simp only [List.getElem?_toArray, List.getElem?_cons_succ, List.getElem?_cons_zero]; rfl) (by kernel_rfl) (by kernel_rfl) (by kernel_rfl) (by exact fun _ _ _ h => h) (Or.inl ⟨by rfl, ?_⟩) hH ?_
          rotate_left
          · (intro wy hSw; (try dsimp only at hSw); go_simp; try (with_reducible rfl))
          try simp only [Act.put, List.setIfInBounds_toArray, List.set_cons_zero, List.set_cons_succ]
          refine wpAnyH_take (i := 14) (v := ?_) (by simp only [List.getElem?_toArray, List.getElem?_cons_succ, List.getElem?_cons_zero]; rfl) (by kernel_rfl) (by kernel_rfl) (by kernel_rfl) (by exact fun _ _ _ h => h) (Or.inl ⟨by rfl, ?_⟩) hH ?_
          rotate_left
          · (intro wy hSw; (try dsimp only at hSw); go_simp; try (with_reducible rfl))
          try simp only [Act.put, List.setIfInBounds_toArray, List.set_cons_zero, List.set_cons_succ]
          refine wpAnyH_ready (rs := [5, 13]) (by kernel_rfl) (by simp) ?_
          refine AllReadyH.cons (by simp only [List.getElem?_toArray, List.getElem?_cons_succ, List.getElem?_cons_zero]; rfl) (fun K hK => ?_) (AllReadyH.cons (by simp only [List.getElem?_toArray, List.getElem?_cons_succ, List.getElem?_cons_zero]; rfl) (fun K hK => ?_) AllReadyH.nil)
          · clear hH
            go_simp
            refine hK.out _ _ ?_ (fun hH => ?_)
            · exact (World.cell?_alloc_lt _ _ _ hrplt).trans e1
            clear hK K
            try simp only [Act.put, List.setIfInBounds_toArray, List.set_cons_zero, List.set_cons_succ]
            refine wpAnyH_ready (rs := [13]) (by kernel_rfl) (by simp) ?_
            refine AllReadyH.cons (by simp only [List.getElem?_toArray, List.getElem?_cons_succ, List.getElem?_cons_zero]; rfl) (fun K hK => ?_) AllReadyH.nil
            clear hH
            go_simp
            refine hK.out _ _ ?_ (fun hH => ?_)
            · exact (World.cell?_alloc_lt _ _ _ hrplt).trans e1
            clear hK K
            try simp only [Act.put, List.setIfInBounds_toArray, List.set_cons_zero, List.set_cons_succ]
            refine wpAnyH_take (i := 15) (v := ?_) (by simp only [List.getElem?_toArray, List.getElem?_cons_succ, List.getElem?_cons_zero]; rfl) (by kernel_rfl) (by kernel_rfl) (by kernel_rfl) (by exact fun _ _ _ h => h) (Or.inl ⟨by rfl, ?_⟩) hH ?_
            rotate_left
            · (intro wy hSw; (try dsimp only at hSw); go_simp; try (with_reducible rfl))
            try simp only [Act.put, List.setIfInBounds_toArray, List.set_cons_zero, List.set_cons_succ]
            refine wpAnyH_ready (rs := [16]) (by kernel_rfl) (by simp) ?_
            refine AllReadyH.cons (by simp only [List.getElem?_toArray, List.getElem?_cons_succ, List.getElem?_cons_zero]; rfl) (fun K hK => ?_) AllReadyH.nil
            clear hH
            refine step_append_onto rfl (.tmp 68) (.tmp 78) _ rfl W2.heap.size 5 i0 _ 1 1 Try.underlying30 hi0 hz0 hz1 hz2 rfl (by omega) (.slice (some ⟨W2.drew.heap.size, 0, none⟩) 0 0) 0 [] rfl (World.ownsRow_made (base := W2.heap.size) (e := 5) (size := 1) W2.drew #[] 0 (Nat.le_refl _) (by simp) (by simp)) (.slice (some ⟨bb, 0, none⟩) L bc) L (cellsOf (xb.take L)) rfl ((HR2.out.sees (fun h => by cases h)).below ((Below.refl W2.heap.size W2).drew.alloc (Nat.le_refl _) _)) (cellsOf_one _) (by simp only [maxLen]; have := HNL.out; omega) (by have := HNL.out; omega) (Below.size ((Below.refl W2.heap.size W2).drew.alloc (Nat.le_refl _) _)) ?_
            intro v3 w3 hown3 honto3
            obtain ⟨a3, c3, rfl, ho3, hb3, hn3⟩ := fresh_row (zs := xb.take L) HR2.out.2.1 (World.ownsRow_made (base := W2.heap.size) (e := 5) (size := 1) W2.drew #[] 0 (Nat.le_refl _) (by simp) (by simp)) hown3 honto3
            have s1 : w3.cell? ⟨g, k * 3 + 1, none⟩ = some (.slice (some ⟨bb, 0, none⟩) L bc) := (hb3.cell (p := ⟨g, k * 3 + 1, none⟩) hglt2).trans e2
            have s1f : w3.frozen? ⟨g, k * 3 + 1, none⟩ = false := (hb3.frozen (p := ⟨g, k * 3 + 1, none⟩) hglt2).trans fr1
            have s2 : w3.cell? ⟨g, k * 3 + 2, none⟩ = some (.int .i64 xs) := (hb3.cell (p := ⟨g, k * 3 + 2, none⟩) hglt2).trans e3
            have s2f : w3.frozen? ⟨g, k * 3 + 2, none⟩ = false := (hb3.frozen (p := ⟨g, k * 3 + 2, none⟩) hglt2).trans fr2
            have s3 : w3.cell? ⟨rp, 1, none⟩ = some (.slice (some ⟨g, 0, none⟩) rs.length lc) := (hb3.cell (p := ⟨rp, 1, none⟩) hrplt).trans e1
            have HO3 := Lib.hid ho3
            have HB3 := Lib.hid hb3
            have HN3 := Lib.hid hn3
            clear ho3 hb3 hn3 hown3 honto3
            refine hK.out _ _ ?_ (fun hH => ?_)
            · exact s3
            clear hK K
            try simp only [Act.put, List.setIfInBounds_toArray, List.set_cons_zero, List.set_cons_succ]
            refine wpAnyH_take (i := 17) (v := ?_) (by simp only [List.getElem?_toArray, List.getElem?_cons_succ, List.getElem?_cons_zero]; rfl) (by kernel_rfl) (by kernel_rfl) (by kernel_rfl) (by exact fun _ _ _ h => h) (Or.inl ⟨by rfl, ?_⟩) hH ?_
            rotate_left
            · (intro wy hSw; (try dsimp only at hSw); go_simp; try (with_reducible rfl))
            try simp only [Act.put, List.setIfInBounds_toArray, List.set_cons_zero, List.set_cons_succ]
            refine wpAnyH_take (i := 18) (v := ?_) (by simp only [List.getElem?_toArray, List.getElem?_cons_succ, List.getElem?_cons_zero]; rfl) (by kernel_rfl) (by kernel_rfl) (by kernel_rfl) (by exact fun _ _ _ h => h) (Or.inl ⟨by rfl, ?_⟩) hH ?_
            rotate_left
            · (intro wy hSw; (try dsimp only at hSw); go_simp; try (with_reducible rfl))
            try simp only [Act.put, List.setIfInBounds_toArray, List.set_cons_zero, List.set_cons_succ]
            refine wpAnyH_ready (rs := [19]) (by kernel_rfl) (by simp) ?_
            refine AllReadyH.cons (by simp only [List.getElem?_toArray, List.getElem?_cons_succ, List.getElem?_cons_zero]; rfl) (fun K hK => ?_) AllReadyH.nil
            clear hH
            go_simp
            refine hK.out _ _ ?_ (fun hH => ?_)
            · exact (World.cell?_setCell_other _ _ _ _ (by simp [hgr])).trans s3
            clear hK K
            try simp only [Act.put, List.setIfInBounds_toArray, List.set_cons_zero, List.set_cons_succ]
            refine wpAnyH_done (by kernel_rfl) ?_ _
            have HFIN : Hid (CrashRel w rp S (.slice (some ⟨g, 0, none⟩) rs.length lc) rs 0 kp (.int .i64 ((k : Int) + 1)) ((w3.setCell ⟨g, k * 3 + 1, none⟩ (.slice a3 L c3)).setCell ⟨g, k * 3 + 2, none⟩ (.int .i64 (L : Int)))) := Lib.hid (crash_step rfl HA2.out (HB.out.trans (But.of_new HB2.out) (fun i _ e => e)) HFT.out HLN.out hlt HX.out HNC.out HLS.out HB3.out HO3.out HN3.out)
            go_wp2_with fail
            go_roundw
            case rel =>
              exact HFIN.out
            case measure => simp [intOf]; omega
          · clear hH
            go_simp
            refine hK.out _ _ ?_ (fun hH => ?_)
            · exact e1
            clear hK K
            try simp only [Act.put, List.setIfInBounds_toArray, List.set_cons_zero, List.set_cons_succ]
            refine wpAnyH_take (i := 15) (v := ?_) (by simp only [List.getElem?_toArray, List.getElem?_cons_succ, List.getElem?_cons_zero]; rfl) (by kernel_rfl) (by kernel_rfl) (by kernel_rfl) (by exact fun _ _ _ h => h) (Or.inl ⟨by rfl, ?_⟩) hH ?_
            rotate_left
            · (intro wy hSw; (try dsimp only at hSw); go_simp; try (with_reducible rfl))
            try simp only [Act.put, List.setIfInBounds_toArray, List.set_cons_zero, List.set_cons_succ]
            refine wpAnyH_ready (rs := [5]) (by kernel_rfl) (by simp) ?_
            refine AllReadyH.cons (by simp only [List.getElem?_toArray, List.getElem?_cons_succ, List.getElem?_cons_zero]; rfl) (fun K hK => ?_) AllReadyH.nil
            clear hH
            go_simp
            refine hK.out _ _ ?_ (fun hH => ?_)
            · exact (World.cell?_alloc_lt _ _ _ hrplt).trans e1
            clear hK K
            try simp only [Act.put, List.setIfInBounds_toArray, List.set_cons_zero, List.set_cons_succ]
            refine wpAnyH_ready (rs := [16]) (by kernel_rfl) (by simp) ?_
            refine AllReadyH.cons (by simp only [List.getElem?_toArray, List.getElem?_cons_succ, List.getElem?_cons_zero]; rfl) (fun K hK => ?_) AllReadyH.nil
            clear hH
            refine step_append_onto rfl (.tmp 68) (.tmp 78) _ rfl W2.heap.size 5 i0 _ 1 1 Try.underlying30 hi0 hz0 hz1 hz2 rfl (by omega) (.slice (some ⟨W2.drew.heap.size, 0, none⟩) 0 0) 0 [] rfl (World.ownsRow_made (base := W2.heap.size) (e := 5) (size := 1) W2.drew #[] 0 (Nat.le_refl _) (by simp) (by simp)) (.slice (some ⟨bb, 0, none⟩) L bc) L (cellsOf (xb.take L)) rfl ((HR2.out.sees (fun h => by cases h)).below ((Below.refl W2.heap.size W2).drew.alloc (Nat.le_refl _) _)) (cellsOf_one _) (by simp only [maxLen]; have := HNL.out; omega) (by have := HNL.out; omega) (Below.size ((Below.refl W2.heap.size W2).drew.alloc (Nat.le_refl _) _)) ?_
            intro v3 w3 hown3 honto3
            obtain ⟨a3, c3, rfl, ho3, hb3, hn3⟩ := fresh_row (zs := xb.take L) HR2.out.2.1 (World.ownsRow_made (base := W2.heap.size) (e := 5) (size := 1) W2.drew #[] 0 (Nat.le_refl _) (by simp) (by simp)) hown3 honto3
            have s1 : w3.cell? ⟨g, k * 3 + 1, none⟩ = some (.slice (some ⟨bb, 0, none⟩) L bc) := (hb3.cell (p := ⟨g, k * 3 + 1, none⟩) hglt2).trans e2
            have s1f : w3.frozen? ⟨g, k * 3 + 1, none⟩ = false := (hb3.frozen (p := ⟨g, k * 3 + 1, none⟩) hglt2).trans fr1
            have s2 : w3.cell? ⟨g, k * 3 + 2, none⟩ = some (.int .i64 xs) := (hb3.cell (p := ⟨g, k * 3 + 2, none⟩) hglt2).trans e3
            have s2f : w3.frozen? ⟨g, k * 3 + 2, none⟩ = false := (hb3.frozen (p := ⟨g, k * 3 + 2, none⟩) hglt2).trans fr2
            have s3 : w3.cell? ⟨rp, 1, none⟩ = some (.slice (some ⟨g, 0, none⟩) rs.length lc) := (hb3.cell (p := ⟨rp, 1, none⟩) hrplt).trans e1
            have HO3 := Lib.hid ho3
            have HB3 := Lib.hid hb3
            have HN3 := Lib.hid hn3
            clear ho3 hb3 hn3 hown3 honto3
            refine hK.out _ _ ?_ (fun hH => ?_)
            · exact s3
            clear hK K
            try simp only [Act.put, List.setIfInBounds_toArray, List.set_cons_zero, List.set_cons_succ]
            refine wpAnyH_take (i := 17) (v := ?_) (by simp only [List.getElem?_toArray, List.getElem?_cons_succ, List.getElem?_cons_zero]; rfl) (by kernel_rfl) (by kernel_rfl) (by kernel_rfl) (by exact fun _ _ _ h => h) (Or.inl ⟨by rfl, ?_⟩) hH ?_
            rotate_left
            · (intro wy hSw; (try dsimp only at hSw); go_simp; try (with_reducible rfl))
            try simp only [Act.put, List.setIfInBounds_toArray, List.set_cons_zero, List.set_cons_succ]
            refine wpAnyH_take (i := 18) (v := ?_) (by simp only [List.getElem?_toArray, List.getElem?_cons_succ, List.getElem?_cons_zero]; rfl) (by kernel_rfl) (by kernel_rfl) (by kernel_rfl) (by exact fun _ _ _ h => h) (Or.inl ⟨by rfl, ?_⟩) hH ?_
            rotate_left
            · (intro wy hSw; (try dsimp only at hSw); go_simp; try (with_reducible rfl))
            try simp only [Act.put, List.setIfInBounds_toArray, List.set_cons_zero, List.set_cons_succ]
            refine wpAnyH_ready (rs := [19]) (by kernel_rfl) (by simp) ?_
            refine AllReadyH.cons (by simp only [List.getElem?_toArray, List.getElem?_cons_succ, List.getElem?_cons_zero]; rfl) (fun K hK => ?_) AllReadyH.nil
            clear hH
            go_simp
            refine hK.out _ _ ?_ (fun hH => ?_)
            · exact (World.cell?_setCell_other _ _ _ _ (by simp [hgr])).trans s3
            clear hK K
            try simp only [Act.put, List.setIfInBounds_toArray, List.set_cons_zero, List.set_cons_succ]
            refine wpAnyH_done (by kernel_rfl) ?_ _
            have HFIN : Hid (CrashRel w rp S (.slice (some ⟨g, 0, none⟩) rs.length lc) rs 0 kp (.int .i64 ((k : Int) + 1)) ((w3.setCell ⟨g, k * 3 + 1, none⟩ (.slice a3 L c3)).setCell ⟨g, k * 3 + 2, none⟩ (.int .i64 (L : Int)))) := Lib.hid (crash_step rfl HA2.out (HB.out.trans (But.of_new HB2.out) (fun i _ e => e)) HFT.out HLN.out hlt HX.out HNC.out HLS.out HB3.out HO3.out HN3.out)
            go_wp2_with fail
            go_roundw
            case rel =>
              exact HFIN.out
            case measure => simp [intOf]; omega
    · have hke : k = rs.length := by omega
      have d3 : wr.cell? ⟨rp, 3, none⟩ = some (.bool true) := hA.blk.cell 3
      have d6 : wr.cell? ⟨rp, 6, none⟩ = some (.bool (mixS kp S k).down) := hA.blk.cell 6
      have g3 := hA.blk.frozen 3
      have g6 := hA.blk.frozen 6
      have hfin : RAt ((wr.setCell ⟨rp, 6, none⟩ (.bool true)).setCell ⟨rp, 3, none⟩ (.bool false)) rp (crash kp S) (.slice la rs.length lc) rs' false 0 kp ∧ But (fun i => i = rp) wr ((wr.setCell ⟨rp, 6, none⟩ (.bool true)).setCell ⟨rp, 3, none⟩ (.bool false)) := by
        have hb0 : But (fun i => i = rp) wr ((wr.setCell ⟨rp, 6, none⟩ (.bool true)).setCell ⟨rp, 3, none⟩ (.bool false)) := (but_set wr rp 6 _).trans' (but_set _ rp 3 _)
        have hm : (crash kp S).files = (mixS kp S k).files := by
          rw [hke, ← HLS.out, mix_end]; rfl
        exact ⟨hA.disk hb0 hm ((hA.blk.set_ 6 _).set_ 3 _) rfl (good_crash HG.out kp), hb0⟩
      have HX := Lib.hid hfin
      have HB := Lib.hid hb
      have HFT := Lib.hid hf
      clear d5 hfin hA hb hf
      go_wp2
      go_ret
      refine ⟨rfl, rs', HX.out.1, ?_, HFT.out⟩
      refine (HB.out.mono (T := rfoot rp (.slice la rs.length lc) rs) (fun i _ e => .inr (.inl e))).trans HX.out.2 (fun i _ e => .inl e)
end
end Go.Proofs.Ytiaaadeenbjciaa.Disk
