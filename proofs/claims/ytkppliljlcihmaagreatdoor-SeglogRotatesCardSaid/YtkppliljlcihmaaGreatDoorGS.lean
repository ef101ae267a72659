/- In one text: Contract: a log is opened. Contract: a log gets one segment more. -/
import Derived.Test.YtkppliljlcihmaaGreatDoorGR
import Derived.Handy
namespace Go.Proofs.YtkppliljlcihmaaGreatDoor.Seg
open Go.Proofs.YtkppliljlcihmaaGreatDoor.Mem
open Go.Proofs.YtkppliljlcihmaaGreatDoor.Disk (Nm File St Eff Has grow errV used readOf lenOf run)
open Go.Proofs.YtkppliljlcihmaaGreatDoor.Rec (Rcd Recs Is)
open Go.Proofs.YtkppliljlcihmaaGreatDoor.Torn (Gp Pc gcells gpl Pcs scan total)
open Go.ChangeShapes Go.WideShapes Go.ChangeAt Go.RowKit
set_option linter.unusedVariables false
set_option linter.unusedSimpArgs false

/- A log in memory, and its disk; H: all their blocks. -/
structure SysAt (w : World) (p lb : Nat) (S : St) (limit : Int) (nums : List Nat) (base : Nat) (begun : Bool) (zs : List Nat) (failed : Bool) (F g c : _) (vz : Value) : Prop where
  dsk : Dsk w p S F
  log : Disk.Blk w lb 77 (logC p limit g nums.length c base begun vz failed)
  nms : Nms w g 0 c nums
  siz : w.ownsRow 0 3 1 vz zs.length (intCells zs)
  flb : ¬ F lb
  fg : ¬ F g
  fz : ∀ k, vz.ownBlock = some k → ¬ F k ∧ k ≠ g
  gl : g ≠ lb
def foot (lb g : Nat) (vz : Value) (F : Nat → Prop) (k : Nat) : Prop := F k ∨ k = lb ∨ k = g ∨ vz.ownBlock = some k
def Sys (w : World) (p lb : Nat) (S : St) (limit : Int) (nums : List Nat) (base : Nat) (begun : Bool) (zs : List Nat) (failed : Bool) (H : Nat → Prop) : Prop :=
  ∃ F g c vz, SysAt w p lb S limit nums base begun zs failed F g c vz ∧ (∀ k, foot lb g vz F k → H k) ∧ ∀ k, H k → k < w.heap.size
/- What an opened log answers. -/
def OpenAfter (w : World) (p : Nat) (F : Nat → Prop) (limit : Int) (nums : List Nat) (begun : Bool) (fl : Nat → File) (r : Int × St) (e : Ending) (w' : World) : Prop :=
  (r.1 = 0 ∧ ∃ lb F1 g c ap cp aq cs vz gs ss, e = .returned (.tuple #[.pointer (some ⟨lb, 0, none⟩), .slice ap gs.length cp, .slice aq ss.length cs, .nilIface]) ∧ SysAt w' p lb r.2 limit nums 0 begun (sizesIn fl nums) false F1 g c vz ∧ (∀ k, foot lb g vz F1 k → grow F w w' k) ∧ But F w w' ∧
    (∃ B, w.heap.size ≤ B ∧ w'.ownsRow B 111 3 (.slice ap gs.length cp) gs.length (gpl gs) ∧ w'.ownsRow B 47 3 (.slice aq ss.length cs) ss.length (spl ss)) ∧ (∀ g' ∈ gs, Recs w' g'.a g'.p.l ∧ ∀ x, g'.a = some x → w.heap.size ≤ x.block ∧ ¬ foot lb g vz F1 x.block) ∧ (∀ k, (Value.slice ap gs.length cp).ownBlock = some k ∨ (Value.slice aq ss.length cs).ownBlock = some k → ¬ foot lb g vz F1 k) ∧ gs.map (·.p) = piecesIn fl nums ∧ ss = spotsIn fl nums) ∨
  (r.1 ≠ 0 ∧ (∃ F1, Step w p F r.2 w' F1) ∧ e = .returned (.tuple #[.pointer none, .slice none 0 0, .slice none 0 0, errV r.1]))
section
variable {w w1 w2 : World} {p : Nat} {S S1 S2 : St} {F F1 F2 : Nat → Prop} {limit : Int} {nums : List Nat} {begun : Bool} {fl : Nat → File}
theorem dsk_down (h : Dsk w p S F) : Calls Tryz.prog 16 #[.pointer (some ⟨p, 0, none⟩)] w fun e w' => e = .returned (.bool S.down) ∧ w = w' := by
  obtain ⟨⟨mb, cr, es, D, hA, hF, hlt⟩, _⟩ := h
  have c4 : w.cell? ⟨p, 4, none⟩ = some (.bool S.down) := hA.blk.cell 4
  clear hA hF hlt
  go_enter Tryz.func16, Tryz.ntmps16
  go_wp2
  go_ret
  exact ⟨rfl, rfl⟩
set_option maxRecDepth 100000 in
set_option maxHeartbeats 8000000 in
theorem open_any (h : Dsk w p S F) (hd : S.down = false) (hl1 : 100 ≤ limit) (hl2 : limit ≤ 1073741824) {rM : Int × St} {L : Nat}
    (cM : Calls Tryz.prog 28 #[.pointer (some ⟨p, 0, none⟩)] w (ManAfter w p F rM nums 0 begun))
    (hcan : ∀ i ∈ nums, i < 100) (hnl : nums.length ≤ 1000) (hL : nums.getLast? = some L) (hri : nums.Pairwise (· < ·))
    (hsz : rM.1 = 0 → ∀ x ∈ rM.2.files, x.1.length ≤ 1000000)
    (hfl : rM.1 = 0 → (run (goneN (untold nums (rM.2.files.map (·.1)))) rM.2).1 = 0 → (run (goneN (untold nums (rM.2.files.map (·.1)))) rM.2).2.down = false ∧ ∀ i ∈ nums, Disk.look (seg i) (run (goneN (untold nums (rM.2.files.map (·.1)))) rM.2).2.files = some (fl i) ∧ Bytes (fl i).bytes ∧ (i ≠ L → totOf (fl i) = (fl i).bytes.length)) :
    Calls Tryz.prog 7 #[.pointer (some ⟨p, 0, none⟩), .int .i64 limit] w (OpenAfter w p F limit nums begun fl
      (if rM.1 = 0 then if (run (goneN (untold nums (rM.2.files.map (·.1)))) rM.2).1 = 0 then run (opC (decide (totOf (fl L) < (fl L).bytes.length)) L (totOf (fl L))) (run (goneN (untold nums (rM.2.files.map (·.1)))) rM.2).2 else run (goneN (untold nums (rM.2.files.map (·.1)))) rM.2 else rM)) := by
  have cD := dsk_down h
  rw [hd] at cD
  have t1 : decide (limit < 100) = false := decide_eq_false (by omega)
  have t2 : decide (1073741824 < limit) = false := decide_eq_false (by omega)
  obtain ⟨rG, hrG⟩ : ∃ rG, rG = run (goneN (untold nums (rM.2.files.map (·.1)))) rM.2 := ⟨_, rfl⟩
  rw [← hrG] at hfl ⊢
  obtain ⟨rC, hrC⟩ : ∃ rC, rC = run (opC (decide (totOf (fl L) < (fl L).bytes.length)) L (totOf (fl L))) rG.2 := ⟨_, rfl⟩
  rw [← hrC]
  obtain ⟨R, hR⟩ : ∃ R, R = if rM.1 = 0 then if rG.1 = 0 then rC else rG else rM := ⟨_, rfl⟩
  rw [← hR]
  have H0 := Lib.hid (And.intro h hd)
  have HLT := Lib.hid h.lt
  have HH := Lib.hid (And.intro hcan (And.intro hnl (And.intro hL (And.intro hri (And.intro hsz hfl)))))
  have HR := Lib.hid (And.intro hrG (And.intro hrC hR))
  clear h hd hcan hL hri hsz hfl hrG hrC hR hl1 hl2
  go_enter Tryz.func7, Tryz.ntmps7
  go_wp2_with fail
  refine cD.mono ?_
  rintro e w0 ⟨rfl, rfl⟩
  go_wp2_with fail
  refine cM.mono ?_
  rintro e w1 ⟨F1, hS1, ⟨hr0, g, c, rfl, hN1, hg1, hgF⟩ | ⟨hr0, rfl⟩⟩
  · unfold manV
    have hb1 := (Below.refl _ w1).alloc (Nat.le_refl _) (.cells #[.slice (some ⟨g, 0, none⟩) nums.length c, .int .i64 0, .bool begun] 72)
    have c2 := deleteUntold_any (hS1.below_ hb1).1 (hN1.below hb1) (fun i hi => ⟨by have := HH.out.1 i hi; omega, .inl (HH.out.1 i hi)⟩) (by omega) (HH.out.2.2.2.2.1 hr0) 0 begun
    rw [← HR.out.1] at c2
    unfold manV at c2
    have HS1 := Lib.hid (hS1.below_ hb1)
    have HN1 := Lib.hid (And.intro (hN1.below hb1) (And.intro hg1 (And.intro hgF hr0)))
    have hbx : Disk.Blk (w1.alloc (.cells #[.slice (some ⟨g, 0, none⟩) nums.length c, .int .i64 0, .bool begun] 72)) w1.heap.size 72 #[.slice (some ⟨g, 0, none⟩) nums.length c, .int .i64 0, .bool begun] := Disk.Blk.new _ _ _
    obtain ⟨W1, hW1⟩ : ∃ W, W = w1.alloc (.cells #[.slice (some ⟨g, 0, none⟩) nums.length c, .int .i64 0, .bool begun] 72) := ⟨_, rfl⟩
    rw [← hW1] at c2 HS1 HN1 hbx
    have HZ1 := Lib.hid (show w.heap.size ≤ w1.heap.size ∧ g < w1.heap.size ∧ ∀ k, F1 k → k < w1.heap.size from ⟨hS1.size, hN1.lt, hS1.1.lt⟩)
    have HBX := Lib.hid hbx
    have n0 : W1.cell? ⟨w1.heap.size, 0, none⟩ = some _ := hbx.cell 0
    have n1 : W1.cell? ⟨w1.heap.size, 1, none⟩ = some _ := hbx.cell 1
    have n2 : W1.cell? ⟨w1.heap.size, 2, none⟩ = some _ := hbx.cell 2
    clear cM cD hS1 hN1 hg1 hgF hb1 hbx
    go_wp2_with fail
    rw [← hW1]
    clear hW1
    by_cases hg0 : rG.1 = 0
    · have HG0 := Lib.hid hg0
      unfold After at c2
      rw [errV_ok hg0] at c2
      clear hg0
      refine c2.mono ?_
      rintro e w2 ⟨rfl, hN2⟩
      have HS2 := Lib.hid (HS1.out.trans hN2.step)
      have hbx2 := HBX.out.but hN2.2 (fun hF => by have := HZ1.out.2.2 _ hF; omega)
      have HM2 := Lib.hid (HN1.out.1.but hN2.2 HN1.out.2.2.1)
      have HGF2 := Lib.hid (show ¬ grow F1 W1 w2 g from not_grow HN1.out.2.2.1 HN1.out.1.lt)
      have n0 : w2.cell? ⟨w1.heap.size, 0, none⟩ = some _ := hbx2.cell 0
      have n1 : w2.cell? ⟨w1.heap.size, 1, none⟩ = some _ := hbx2.cell 1
      have n2 : w2.cell? ⟨w1.heap.size, 2, none⟩ = some _ := hbx2.cell 2
      clear c2 hN2 hbx2
      obtain ⟨hdn, hfl⟩ := HH.out.2.2.2.2.2 HN1.out.2.2.2 HG0.out
      have hbl := (Below.refl _ w2).alloc (Nat.le_refl _) (.cells #[.pointer (some ⟨p, 0, none⟩), .int .i64 limit, .slice (some ⟨g, 0, none⟩) nums.length c, .int .i64 0, .bool begun, .slice none 0 0, .bool false] 77)
      have hlb : Disk.Blk (w2.alloc (.cells #[.pointer (some ⟨p, 0, none⟩), .int .i64 limit, .slice (some ⟨g, 0, none⟩) nums.length c, .int .i64 0, .bool begun, .slice none 0 0, .bool false] 77)) w2.heap.size 77 (logC p limit g nums.length c 0 begun (.slice none 0 0) false) := Disk.Blk.new _ _ _
      have hne : w2.heap.size ≠ g := by have := HM2.out.lt; omega
      have cS := scan_log (HS2.out.below_ hbl).1 hdn hlb (HM2.out.below hbl) (fun hF => by have := HS2.out.1.lt _ hF; omega) HGF2.out hne HH.out.1 HH.out.2.1 HH.out.2.2.1 HH.out.2.2.2.1 hfl
      rw [← HR.out.2.1] at cS
      obtain ⟨W2, hW2⟩ : ∃ W, W = w2.alloc (.cells #[.pointer (some ⟨p, 0, none⟩), .int .i64 limit, .slice (some ⟨g, 0, none⟩) nums.length c, .int .i64 0, .bool begun, .slice none 0 0, .bool false] 77) := ⟨_, rfl⟩
      have hZ2 : W2.heap.size = w2.heap.size + 1 := by rw [hW2]; simp
      rw [← hW2] at cS hbl
      obtain ⟨lb, hlbz⟩ : ∃ lb, lb = w2.heap.size := ⟨_, rfl⟩
      have HZ2 := Lib.hid (And.intro hZ2 (And.intro hlbz HS2.out.size))
      have HM3 := Lib.hid (HM2.out.below hbl)
      have HS3 := Lib.hid (HS2.out.below_ hbl)
      rw [← hlbz] at cS
      obtain ⟨F2, hF2⟩ : ∃ F2, F2 = grow F1 W1 w2 := ⟨_, rfl⟩
      rw [← hF2] at cS HS3 HGF2
      clear hdn hfl hbl hlb hne hZ2 hF2 HS2
      go_wp2_with fail
      rw [← hW2, ← hlbz]
      clear hW2 hlbz
      have hRR : R = rC := by rw [HR.out.2.2, if_pos HN1.out.2.2.2, if_pos HG0.out]
      have HRR := Lib.hid hRR
      clear hRR
      refine cS.mono ?_
      rintro e w3 (⟨hc0, F3, ap, cp, aq, cs, vz, gs, ss, zs, rfl, hO⟩ | ⟨hc0, ⟨F3, q1, q2, q3⟩, rfl⟩)
      · have HO := Lib.hid (And.intro hc0 hO)
        clear cS hc0 hO n0 n1 n2
        go_wp2_with fail
        go_returns
        obtain ⟨hc0, hO⟩ := HO.out
        rw [HRR.out]
        have hall : nums.take nums.length = nums := List.take_length
        have z1 := HZ1.out.1
        have z2 := HZ2.out.1
        have z3 := HZ2.out.2.1
        have z4 := HS3.out.size
        have z5 := HN1.out.2.1
        have z6 := HZ1.out.2.1
        have z7 := HZ2.out.2.2
        have z8 := HM3.out.lt
        have z9 := hO.rows.size
        have hzs := hO.siz
        rw [hall] at hzs
        have hsub : ∀ j, F3 j → grow F w w3 j := fun j hj => by
          rcases hO.sub j hj with h1 | h1
          · rcases HS3.out.2.1 j h1 with h2 | h2
            · exact .inl h2
            · exact .inr ⟨h2.1, by omega⟩
          · exact .inr ⟨by omega, h1.2⟩
        have hgl : g < w2.heap.size := HM2.out.lt
        refine .inl ⟨hc0, lb, F3, g, c, ap, cp, aq, cs, vz, gs, ss, rfl, ⟨hO.dsk, hO.log, HM3.out.but hO.but (fun hg => by rcases hg with hg | hg; exact HGF2.out hg; omega), by rw [← hzs]; exact ownsRow_base_a hO.rows.sizes (Nat.zero_le _), hO.flb, hO.fg, fun k hk => ⟨hO.rows.free k (.inr (.inr hk)), by have := (hO.rows.sizes.lt k hk).1; omega⟩, by omega⟩, ?_, ?_, ⟨W2.heap.size, by omega, hO.rows.pieces, hO.rows.spots⟩, ?_, ?_, by rw [hO.pcs, hall], by rw [hO.spo, hall]⟩
        · rintro k (hk | rfl | rfl | hk)
          · exact hsub k hk
          · exact .inr ⟨by omega, hO.log.lt⟩
          · exact .inr ⟨z5, by omega⟩
          · exact .inr ⟨by have := (hO.rows.sizes.lt k hk).1; omega, (hO.rows.sizes.lt k hk).2⟩
        · refine HS3.out.2.2.trans hO.but (fun i hi hF => ?_)
          rcases hF with hF | hF
          · rcases HS3.out.2.1 i hF with h2 | h2
            · exact h2
            · omega
          · omega
        · intro g' hg'
          obtain ⟨r1, r2⟩ := hO.rows.recs g' hg'
          refine ⟨r1, fun x hx => ?_⟩
          obtain ⟨a1, a2, a3, a4, a5, a6⟩ := r2 x hx
          refine ⟨by omega, ?_⟩
          rintro (h1 | h1 | h1 | h1)
          · exact a3 h1
          · omega
          · omega
          · exact a6 h1
        · intro k hk
          have hlt2 : W2.heap.size ≤ k := by
            rcases hk with hk | hk
            · exact (hO.rows.pieces.lt k hk).1
            · exact (hO.rows.spots.lt k hk).1
          rintro (h1 | h1 | h1 | h1)
          · rcases hk with hk | hk
            · exact hO.rows.free k (.inl hk) h1
            · exact hO.rows.free k (.inr (.inl hk)) h1
          · omega
          · omega
          · rcases hk with hk | hk
            · exact own_ne hO.rows.pieces hO.rows.sizes (by decide) k h1 hk
            · exact own_ne hO.rows.spots hO.rows.sizes (by decide) k h1 hk
      · have hv := errV_bad hc0
        rw [hv]
        have HV := Lib.hid (And.intro hc0 hv)
        have HQ := Lib.hid (And.intro q1 (And.intro q2 q3))
        clear cS hc0 hv q1 q2 q3 n0 n1 n2
        go_wp2_with fail
        go_returns
        rw [HRR.out]
        obtain ⟨q1, q2, q3⟩ := HQ.out
        have z2 := HZ2.out.1
        have z3 := HZ2.out.2.1
        have z4 := HS3.out.size
        refine .inr ⟨HV.out.1, ⟨F3, q1, fun j hj => ?_, HS3.out.2.2.trans q3 (fun i hi hF => ?_)⟩, by rw [HV.out.2]⟩
        · rcases q2 j hj with h1 | h1
          · rcases HS3.out.2.1 j h1 with h2 | h2
            · exact .inl h2
            · exact .inr ⟨h2.1, by have := q3.size; omega⟩
          · exact .inr ⟨by omega, h1.2⟩
        · rcases hF with hF | hF
          · rcases HS3.out.2.1 i hF with h2 | h2
            · exact h2
            · omega
          · have := HZ2.out.2.2; omega
    · have hv := errV_bad hg0
      unfold After at c2
      rw [hv] at c2
      have HV := Lib.hid (And.intro hg0 hv)
      clear hg0 hv
      refine c2.mono ?_
      rintro e w2 ⟨rfl, hN2⟩
      have HS2 := Lib.hid (HS1.out.trans hN2.step)
      clear c2 hN2
      go_wp2_with fail
      go_returns
      have hRR : R = rG := by rw [HR.out.2.2, if_pos HN1.out.2.2.2, if_neg HV.out.1]
      rw [hRR]
      exact .inr ⟨HV.out.1, ⟨_, HS2.out⟩, by rw [HV.out.2]⟩
  · have HE := Lib.hid hr0
    have hv : errV rM.1 = _ := errV_bad hr0
    rw [hv]
    have HV := Lib.hid hv
    have HS1 := Lib.hid (hS1.below_ ((Below.refl _ w1).alloc (Nat.le_refl _) (.cells #[.slice none 0 0, .int .i64 0, .bool false] 72)))
    clear hr0 hv hS1 cM cD
    unfold noMan
    go_wp2_with fail
    go_returns
    have hRR : R = rM := by rw [HR.out.2.2, if_neg HE.out]
    rw [hRR]
    exact .inr ⟨HE.out, ⟨_, HS1.out⟩, by rw [HV.out]⟩
end
end Go.Proofs.YtkppliljlcihmaaGreatDoor.Seg
namespace Go.Proofs.YtkppliljlcihmaaGreatDoor.Seg
open Go.Proofs.YtkppliljlcihmaaGreatDoor.Mem
open Go.Proofs.YtkppliljlcihmaaGreatDoor.Disk (Nm File St Eff Has grow errV used readOf lenOf run)
open Go.ChangeShapes Go.WideShapes Go.ChangeAt Go.RowKit
set_option linter.unusedVariables false
set_option linter.unusedSimpArgs false

section
variable {w w1 w2 : World} {p lb g c g' c' : Nat} {S S1 S2 : St} {F F1 F2 : Nat → Prop} {limit : Int} {nums nums' : List Nat} {base base' : Nat} {begun begun' : Bool} {zs : List Nat} {vz : Value}
/- What a step of a log leaves of the blocks. -/
structure Kept (w w' : World) (lb : Nat) (F F1 : Nat → Prop) (vz vz' : Value) : Prop where
  sub : ∀ j, F1 j → grow F w w' j
  but : But (fun j => F j ∨ j = lb ∨ vz.ownBlock = some j) w w'
  own : ∀ j, vz'.ownBlock = some j → vz.ownBlock = some j ∨ w.heap.size ≤ j
theorem SysAt.lt (h : SysAt w p lb S limit nums base begun zs false F g c vz) : ∀ k, foot lb g vz F k → k < w.heap.size := by
  rintro k (hk | rfl | rfl | hk)
  · exact h.dsk.lt k hk
  · exact h.log.lt
  · exact h.nms.lt
  · exact (h.siz.lt k hk).2
theorem SysAt.below {failed : Bool} (h : SysAt w p lb S limit nums base begun zs failed F g c vz) (hb : Below w.heap.size w w1) : SysAt w1 p lb S limit nums base begun zs failed F g c vz :=
  ⟨h.dsk.below hb, h.log.but (But.of_below hb) (by have := h.log.lt; omega), h.nms.below hb, ownsRow_but h.siz (But.of_new hb (S := fun _ => False)) (fun _ _ e => e), h.flb, h.fg, h.fz, h.gl⟩
/- The disk does something. -/
theorem SysAt.disk {failed : Bool} (h : SysAt w p lb S limit nums base begun zs failed F g c vz) (hN : Next w p F S1 w1) : SysAt w1 p lb S1 limit nums base begun zs failed (grow F w w1) g c vz :=
  ⟨hN.1, h.log.but hN.2 h.flb, h.nms.but hN.2 h.fg, ownsRow_but h.siz hN.2 (fun k hk => (h.fz k hk).1), not_grow h.flb h.log.lt, not_grow h.fg h.nms.lt, fun k hk => ⟨not_grow (h.fz k hk).1 (h.siz.lt k hk).2, (h.fz k hk).2⟩, h.gl⟩
def GrowAfter (w : World) (p lb : Nat) (F : Nat → Prop) (limit : Int) (nums : List Nat) (base : Nat) (begun : Bool) (zs : List Nat) (g c : Nat) (vz : Value) (nums' : List Nat) (base' : Nat) (begun' : Bool) (g' c' : Nat) (r : Int × St) (e : Ending) (w' : World) : Prop :=
  ∃ F1 vz', Kept w w' lb F F1 vz vz' ∧ ((r.1 = 0 ∧ e = .returned .nilIface ∧ SysAt w' p lb r.2 limit nums' base' begun' (zs ++ [0]) false F1 g' c' vz') ∨ (r.1 ≠ 0 ∧ e = .returned (errV r.1) ∧ SysAt w' p lb r.2 limit nums base begun zs false F1 g c vz'))
theorem Kept.refl (hb : Below w.heap.size w w1) (hlt : ∀ k, F k → k < w.heap.size) : Kept w w1 lb F F vz vz := ⟨fun j hj => .inl hj, But.of_new hb, fun j hj => .inl hj⟩
/- The disk does something more. -/
theorem Kept.disk (h : Kept w w1 lb F F1 vz vz) (hN : But F1 w1 w2) : Kept w w2 lb F (grow F1 w1 w2) vz vz := by
  have s1 := h.but.size
  have s2 := hN.size
  refine ⟨fun j hj => ?_, h.but.trans hN (fun i hi hF => ?_), h.own⟩
  · rcases hj with hj | hj
    · rcases h.sub j hj with h1 | h1
      · exact .inl h1
      · exact .inr ⟨h1.1, by omega⟩
    · exact .inr ⟨by omega, hj.2⟩
  · rcases h.sub i hF with h1 | h1
    · exact .inl h1
    · omega
theorem Kept.below (h : Kept w w1 lb F F1 vz vz) (hb : Below w1.heap.size w1 w2) : Kept w w2 lb F F1 vz vz :=
  ⟨fun j hj => by
    have := hb.size
    rcases h.sub j hj with h1 | h1
    · exact .inl h1
    · exact .inr ⟨h1.1, by omega⟩, h.but.trans (But.of_new hb (S := fun _ => False)) (fun _ _ e => e.elim), h.own⟩
set_option maxRecDepth 100000 in
set_option maxHeartbeats 8000000 in
theorem grow_log (h : SysAt w p lb S limit nums base begun zs false F g c vz) (hm : Nms w g' 0 c' nums') (hgF : ¬ F g') (hgl : g' ≠ lb) (hgz : vz.ownBlock ≠ some g') {L : Nat} (hL : nums'.getLast? = some L) (hL1 : L < 100) (hnl : nums'.length ≤ 1000) (hi : ∀ i ∈ nums', i < 4294967296) (hb' : base' < 4294967296) (hT : Disk.look nT S.files = none) (hz : zs.length ≤ 1000) :
    Calls Tryz.prog 36 #[.pointer (some ⟨lb, 0, none⟩), manV g' 0 nums'.length c' base' begun'] w (GrowAfter w p lb F limit nums base begun zs g c vz nums' base' begun' g' c' (run (rotA L (manFile nums' base' begun')) S)) := by
  obtain ⟨i2, hi2, hx0, hx1, hx2⟩ := info_parts Torn.int_info
  obtain ⟨az, nz, cz, rfl⟩ := own_any h.siz
  have hlt := h.lt
  have hbA := (Below.refl _ w).alloc (Nat.le_refl _) (.cells #[.slice (some ⟨g', 0, none⟩) nums'.length c', .int .i64 (base' : Int), .bool begun'] 72)
  have hbx : Disk.Blk (w.alloc (.cells #[.slice (some ⟨g', 0, none⟩) nums'.length c', .int .i64 (base' : Int), .bool begun'] 72)) w.heap.size 72 #[.slice (some ⟨g', 0, none⟩) nums'.length c', .int .i64 (base' : Int), .bool begun'] := Disk.Blk.new _ _ _
  have hA := h.below hbA
  have hmA := hm.below hbA
  obtain ⟨R, hR⟩ : ∃ R, R = run (rotA L (manFile nums' base' begun')) S := ⟨_, rfl⟩
  rw [← hR]
  have HR := Lib.hid hR
  obtain ⟨b, hbz⟩ : ∃ b, b = w.heap.size := ⟨_, rfl⟩
  obtain ⟨W, hW⟩ : ∃ W, W = w.alloc (.cells #[.slice (some ⟨g', 0, none⟩) nums'.length c', .int .i64 (base' : Int), .bool begun'] 72) := ⟨_, rfl⟩
  rw [← hW] at hbA hbx hA hmA
  have hWs : W.heap.size = w.heap.size + 1 := by rw [hW]; simp
  have HA := Lib.hid hA
  have HMA := Lib.hid hmA
  have HBX := Lib.hid (show Disk.Blk W b 72 #[.slice (some ⟨g', 0, none⟩) nums'.length c', .int .i64 (base' : Int), .bool begun'] from hbz ▸ hbx)
  have HBA := Lib.hid hbA
  have H0 := Lib.hid (And.intro h (And.intro hgF (And.intro hgl (And.intro hgz (And.intro hL (And.intro hi (And.intro hT hlt)))))))
  have HZ := Lib.hid (And.intro hWs hbz)
  have HK0 := Lib.hid (Kept.refl (lb := lb) (vz := .slice az nz cz) hbA h.dsk.lt)
  have HTY := Lib.hid (show ∀ (V : World) (n : Nat) (xs : List Value) (base : Nat) (v : Value) (bb : Nat) (tt : TypeId) (cs : Array Value), V.ownsRow base 3 1 v n xs → Disk.Blk V bb tt cs → 3 ≠ tt → v.ownBlock ≠ some bb from fun V n xs base v bb tt cs h1 h2 h3 => Disk.own_blk_ne h1 h2 h3)
  clear h hm hgF hgl hgz hL hi hT hlt hbA hbx hA hmA hR hWs
  unfold manV
  go_enter Tryz.func36, Tryz.ntmps36
  go_wp2_with fail
  rw [← hW, ← hbz]
  clear hW hbz
  refine Late.region_goes (fun V => V.cell? ⟨lb, 0, none⟩ = some (.pointer (some ⟨p, 0, none⟩)) ∧ Disk.Blk V b 72 #[.slice (some ⟨g', 0, none⟩) nums'.length c', .int .i64 (base' : Int), .bool begun']) (fun _ => false) (by kernel_rfl) ?_ (fun hH => ?_)
  · exact ⟨(HA.out.below ((Below.refl _ W).drew)).log.cell 0, HBX.out.but ((But.refl (fun _ => False) W).drew) (fun h => h)⟩
  refine Late.Goes.takeT (i := 0) (v := ?_) (by simp only [List.getElem?_toArray, List.getElem?_cons_succ, List.getElem?_cons_zero]; rfl) (by kernel_rfl) (by kernel_rfl) (by kernel_rfl) (by kernel_rfl) (by kernel_rfl) (by exact fun _ _ _ h => h) (Or.inl ⟨by rfl, ?_⟩) hH ?_
  rotate_left
  · (intro wy hSw; (try dsimp only at hSw); have k0 := hSw.1; have m0 : wy.cell? ⟨b, 0, none⟩ = some _ := hSw.2.cell 0; have m1 : wy.cell? ⟨b, 1, none⟩ = some _ := hSw.2.cell 1; have m2 : wy.cell? ⟨b, 2, none⟩ = some _ := hSw.2.cell 2; go_simp; try (with_reducible rfl))
  try simp only [Act.put, List.setIfInBounds_toArray, List.set_cons_zero, List.set_cons_succ]
  refine Late.Goes.takeT (i := 1) (v := ?_) (by simp only [List.getElem?_toArray, List.getElem?_cons_succ, List.getElem?_cons_zero]; rfl) (by kernel_rfl) (by kernel_rfl) (by kernel_rfl) (by kernel_rfl) (by kernel_rfl) (by exact fun _ _ _ h => h) (Or.inl ⟨by rfl, ?_⟩) hH ?_
  rotate_left
  · (intro wy hSw; (try dsimp only at hSw); have k0 := hSw.1; have m0 : wy.cell? ⟨b, 0, none⟩ = some _ := hSw.2.cell 0; have m1 : wy.cell? ⟨b, 1, none⟩ = some _ := hSw.2.cell 1; have m2 : wy.cell? ⟨b, 2, none⟩ = some _ := hSw.2.cell 2; go_simp; try (with_reducible rfl))
  try simp only [Act.put, List.setIfInBounds_toArray, List.set_cons_zero, List.set_cons_succ]
  refine Late.Goes.takeT (i := 2) (v := ?_) (by simp only [List.getElem?_toArray, List.getElem?_cons_succ, List.getElem?_cons_zero]; rfl) (by kernel_rfl) (by kernel_rfl) (by kernel_rfl) (by kernel_rfl) (by kernel_rfl) (by exact fun _ _ _ h => h) (Or.inl ⟨by rfl, ?_⟩) hH ?_
  rotate_left
  · (intro wy hSw; (try dsimp only at hSw); have k0 := hSw.1; have m0 : wy.cell? ⟨b, 0, none⟩ = some _ := hSw.2.cell 0; have m1 : wy.cell? ⟨b, 1, none⟩ = some _ := hSw.2.cell 1; have m2 : wy.cell? ⟨b, 2, none⟩ = some _ := hSw.2.cell 2; go_simp; try (with_reducible rfl))
  try simp only [Act.put, List.setIfInBounds_toArray, List.set_cons_zero, List.set_cons_succ]
  refine Late.Goes.takeT (i := 3) (v := ?_) (by simp only [List.getElem?_toArray, List.getElem?_cons_succ, List.getElem?_cons_zero]; rfl) (by kernel_rfl) (by kernel_rfl) (by kernel_rfl) (by kernel_rfl) (by kernel_rfl) (by exact fun _ _ _ h => h) (Or.inl ⟨by rfl, ?_⟩) hH ?_
  rotate_left
  · (intro wy hSw; (try dsimp only at hSw); have k0 := hSw.1; have m0 : wy.cell? ⟨b, 0, none⟩ = some _ := hSw.2.cell 0; have m1 : wy.cell? ⟨b, 1, none⟩ = some _ := hSw.2.cell 1; have m2 : wy.cell? ⟨b, 2, none⟩ = some _ := hSw.2.cell 2; go_simp; try (with_reducible rfl))
  try simp only [Act.put, List.setIfInBounds_toArray, List.set_cons_zero, List.set_cons_succ]
  refine Late.Goes.takeT (i := 4) (v := ?_) (by simp only [List.getElem?_toArray, List.getElem?_cons_succ, List.getElem?_cons_zero]; rfl) (by kernel_rfl) (by kernel_rfl) (by kernel_rfl) (by kernel_rfl) (by kernel_rfl) (by exact fun _ _ _ h => h) (Or.inl ⟨by rfl, ?_⟩) hH ?_
  rotate_left
  · (intro wy hSw; (try dsimp only at hSw); have k0 := hSw.1; have m0 : wy.cell? ⟨b, 0, none⟩ = some _ := hSw.2.cell 0; have m1 : wy.cell? ⟨b, 1, none⟩ = some _ := hSw.2.cell 1; have m2 : wy.cell? ⟨b, 2, none⟩ = some _ := hSw.2.cell 2; go_simp; try (with_reducible rfl))
  try simp only [Act.put, List.setIfInBounds_toArray, List.set_cons_zero, List.set_cons_succ]
  refine Late.Goes.one (i := 5) (by kernel_rfl) (by simp only [List.getElem?_toArray, List.getElem?_cons_succ, List.getElem?_cons_zero]; rfl) (fun K hK => ?_)
  clear hH
  go_simp
  go_at_call 33
  have c5 := last_any (HMA.out.below ((Below.refl _ W).drew)) H0.out.2.2.2.2.1 base' begun'
  unfold manV at c5
  refine c5.mono ?_
  rintro e w1 ⟨rfl, hb1⟩
  have hb1 := ((Below.refl _ W).drew).trans hb1
  have HA1 := Lib.hid (HA.out.below hb1)
  have HM1 := Lib.hid (HMA.out.below hb1)
  have HX1 := Lib.hid (HBX.out.but (But.of_new hb1 (S := fun _ => False)) (fun h => h))
  have HK1 := Lib.hid (HK0.out.below hb1)
  clear c5 hb1
  refine hK.out _ _ ?_ (fun hH => ?_)
  · exact fun _ => ⟨HA1.out.log.cell 0, HX1.out⟩
  clear hK K
  have hH := hH rfl
  try simp only [Act.put, List.setIfInBounds_toArray, List.set_cons_zero, List.set_cons_succ]
  refine Late.Goes.one (i := 6) (by kernel_rfl) (by simp only [List.getElem?_toArray, List.getElem?_cons_succ, List.getElem?_cons_zero]; rfl) (fun K hK => ?_)
  clear hH
  go_simp
  go_at_call 50
  refine (segmentFile_any (w := w1) L (by omega) (.inl hL1)).mono ?_
  rintro e w2 ⟨rfl, hb2⟩
  have HA2 := Lib.hid (HA1.out.below hb2)
  have HM2 := Lib.hid (HM1.out.below hb2)
  have HX2 := Lib.hid (HX1.out.but (But.of_new hb2 (S := fun _ => False)) (fun h => h))
  have HK2 := Lib.hid (HK1.out.below hb2)
  clear hb2
  refine hK.out _ _ ?_ (fun hH => ?_)
  · exact fun _ => ⟨HA2.out.log.cell 0, HX2.out⟩
  clear hK K
  have hH := hH rfl
  try simp only [Act.put, List.setIfInBounds_toArray, List.set_cons_zero, List.set_cons_succ]
  have c3 := dsk_new HA2.out.dsk (segB L) (segB_size L (by omega))
  rw [segB_nm] at c3
  have hbF : ¬ F b := fun hF => by have := H0.out.1.dsk.lt b hF; have := HZ.out.2; omega
  by_cases e3 : ((Eff.new (seg L)).call S).1 = 0
  · have HQ3 := Lib.hid (run_cons_ok (r := sw (manFile nums' base' begun')) e3)
    have HE3 := Lib.hid e3
    unfold After at c3
    rw [errV_ok e3] at c3
    clear e3
    refine Late.Goes.one (i := 7) (by kernel_rfl) (by simp only [List.getElem?_toArray, List.getElem?_cons_succ, List.getElem?_cons_zero]; rfl) (fun K hK => ?_)
    clear hH
    go_simp
    go_at_call 24
    refine c3.mono ?_
    rintro e w3 ⟨rfl, hN3⟩
    have HA3 := Lib.hid (HA2.out.disk hN3)
    have HM3 := Lib.hid (HM2.out.but hN3.2 H0.out.2.1)
    have HX3 := Lib.hid (HX2.out.but hN3.2 hbF)
    have HK3 := Lib.hid (HK2.out.disk hN3.2)
    refine hK.out _ _ ?_ (fun hH => ?_)
    · exact fun _ => ⟨HA3.out.log.cell 0, HX3.out⟩
    clear hK K
    have hH := hH rfl
    try simp only [Act.put, List.setIfInBounds_toArray, List.set_cons_zero, List.set_cons_succ]
    refine Late.Goes.takeT (i := 8) (v := ?_) (by simp only [List.getElem?_toArray, List.getElem?_cons_succ, List.getElem?_cons_zero]; rfl) (by kernel_rfl) (by kernel_rfl) (by kernel_rfl) (by kernel_rfl) (by kernel_rfl) (by exact fun _ _ _ h => h) (Or.inl ⟨by rfl, ?_⟩) hH ?_
    rotate_left
    · (intro wy hSw; (try dsimp only at hSw); have k0 := hSw.1; have m0 : wy.cell? ⟨b, 0, none⟩ = some _ := hSw.2.cell 0; have m1 : wy.cell? ⟨b, 1, none⟩ = some _ := hSw.2.cell 1; have m2 : wy.cell? ⟨b, 2, none⟩ = some _ := hSw.2.cell 2; go_simp; try (with_reducible rfl))
    try simp only [Act.put, List.setIfInBounds_toArray, List.set_cons_zero, List.set_cons_succ]
    refine Late.Goes.done (by kernel_rfl) ?_ _
    have hT3 : Disk.look nT ((Eff.new (seg L)).call S).2.files = none := by
      obtain ⟨q1, q2, q3, q4⟩ := call_files HE3.out
      rw [q1]
      show Disk.look nT (Disk.ins (seg L) ⟨[], 0⟩ S.files) = none
      rw [Disk.look_ins_other H0.out.1.dsk.2.rising.apart q4.1 (seg_t L).symm]
      exact H0.out.2.2.2.2.2.2.1
    have HG3 := Lib.hid (show ¬ grow F w2 w3 b ∧ ¬ grow F w2 w3 g' from ⟨not_grow hbF HX2.out.lt, not_grow H0.out.2.1 HM2.out.lt⟩)
    have c4 := fun V (hb : Below w3.heap.size w3 V) => switchTo_any (HA3.out.dsk.below hb) hT3 (HM3.out.below hb) (by omega) H0.out.2.2.2.2.2.1 base' hb' begun'
    have HC4 := Lib.hid c4
    clear c3 c4 hT3 hN3
    go_wp2_with fail
    refine Late.region_goes (fun V => V.cell? ⟨lb, 0, none⟩ = some (.pointer (some ⟨p, 0, none⟩)) ∧ Disk.Blk V b 72 #[.slice (some ⟨g', 0, none⟩) nums'.length c', .int .i64 (base' : Int), .bool begun']) (fun _ => false) (by kernel_rfl) ?_ (fun hH => ?_)
    · exact ⟨(HA3.out.below ((Below.refl _ w3).drew)).log.cell 0, HX3.out.but ((But.refl (fun _ => False) w3).drew) (fun h => h)⟩
    refine Late.Goes.takeT (i := 0) (v := ?_) (by simp only [List.getElem?_toArray, List.getElem?_cons_succ, List.getElem?_cons_zero]; rfl) (by kernel_rfl) (by kernel_rfl) (by kernel_rfl) (by kernel_rfl) (by kernel_rfl) (by exact fun _ _ _ h => h) (Or.inl ⟨by rfl, ?_⟩) hH ?_
    rotate_left
    · (intro wy hSw; (try dsimp only at hSw); have k0 := hSw.1; have m0 : wy.cell? ⟨b, 0, none⟩ = some _ := hSw.2.cell 0; have m1 : wy.cell? ⟨b, 1, none⟩ = some _ := hSw.2.cell 1; have m2 : wy.cell? ⟨b, 2, none⟩ = some _ := hSw.2.cell 2; go_simp; try (with_reducible rfl))
    try simp only [Act.put, List.setIfInBounds_toArray, List.set_cons_zero, List.set_cons_succ]
    refine Late.Goes.takeT (i := 1) (v := ?_) (by simp only [List.getElem?_toArray, List.getElem?_cons_succ, List.getElem?_cons_zero]; rfl) (by kernel_rfl) (by kernel_rfl) (by kernel_rfl) (by kernel_rfl) (by kernel_rfl) (by exact fun _ _ _ h => h) (Or.inl ⟨by rfl, ?_⟩) hH ?_
    rotate_left
    · (intro wy hSw; (try dsimp only at hSw); have k0 := hSw.1; have m0 : wy.cell? ⟨b, 0, none⟩ = some _ := hSw.2.cell 0; have m1 : wy.cell? ⟨b, 1, none⟩ = some _ := hSw.2.cell 1; have m2 : wy.cell? ⟨b, 2, none⟩ = some _ := hSw.2.cell 2; go_simp; try (with_reducible rfl))
    try simp only [Act.put, List.setIfInBounds_toArray, List.set_cons_zero, List.set_cons_succ]
    refine Late.Goes.takeT (i := 2) (v := ?_) (by simp only [List.getElem?_toArray, List.getElem?_cons_succ, List.getElem?_cons_zero]; rfl) (by kernel_rfl) (by kernel_rfl) (by kernel_rfl) (by kernel_rfl) (by kernel_rfl) (by exact fun _ _ _ h => h) (Or.inl ⟨by rfl, ?_⟩) hH ?_
    rotate_left
    · (intro wy hSw; (try dsimp only at hSw); have k0 := hSw.1; have m0 : wy.cell? ⟨b, 0, none⟩ = some _ := hSw.2.cell 0; have m1 : wy.cell? ⟨b, 1, none⟩ = some _ := hSw.2.cell 1; have m2 : wy.cell? ⟨b, 2, none⟩ = some _ := hSw.2.cell 2; go_simp; try (with_reducible rfl))
    try simp only [Act.put, List.setIfInBounds_toArray, List.set_cons_zero, List.set_cons_succ]
    refine Late.Goes.takeT (i := 3) (v := ?_) (by simp only [List.getElem?_toArray, List.getElem?_cons_succ, List.getElem?_cons_zero]; rfl) (by kernel_rfl) (by kernel_rfl) (by kernel_rfl) (by kernel_rfl) (by kernel_rfl) (by exact fun _ _ _ h => h) (Or.inl ⟨by rfl, ?_⟩) hH ?_
    rotate_left
    · (intro wy hSw; (try dsimp only at hSw); have k0 := hSw.1; have m0 : wy.cell? ⟨b, 0, none⟩ = some _ := hSw.2.cell 0; have m1 : wy.cell? ⟨b, 1, none⟩ = some _ := hSw.2.cell 1; have m2 : wy.cell? ⟨b, 2, none⟩ = some _ := hSw.2.cell 2; go_simp; try (with_reducible rfl))
    try simp only [Act.put, List.setIfInBounds_toArray, List.set_cons_zero, List.set_cons_succ]
    refine Late.Goes.takeT (i := 4) (v := ?_) (by simp only [List.getElem?_toArray, List.getElem?_cons_succ, List.getElem?_cons_zero]; rfl) (by kernel_rfl) (by kernel_rfl) (by kernel_rfl) (by kernel_rfl) (by kernel_rfl) (by exact fun _ _ _ h => h) (Or.inl ⟨by rfl, ?_⟩) hH ?_
    rotate_left
    · (intro wy hSw; (try dsimp only at hSw); have k0 := hSw.1; have m0 : wy.cell? ⟨b, 0, none⟩ = some _ := hSw.2.cell 0; have m1 : wy.cell? ⟨b, 1, none⟩ = some _ := hSw.2.cell 1; have m2 : wy.cell? ⟨b, 2, none⟩ = some _ := hSw.2.cell 2; go_simp; try (with_reducible rfl))
    try simp only [Act.put, List.setIfInBounds_toArray, List.set_cons_zero, List.set_cons_succ]
    have c5 := HC4.out w3.drew ((Below.refl _ w3).drew)
    unfold manV at c5
    have HA4 := Lib.hid (HA3.out.below ((Below.refl _ w3).drew))
    have HM4 := Lib.hid (HM3.out.below ((Below.refl _ w3).drew))
    have HX4 := Lib.hid (HX3.out.but ((But.refl (fun _ => False) w3).drew) (fun h => h))
    have HK4 := Lib.hid (HK3.out.below ((Below.refl _ w3).drew))
    by_cases e5 : (run (sw (manFile nums' base' begun')) ((Eff.new (seg L)).call S).2).1 = 0
    · have HE5 := Lib.hid e5
      unfold After at c5
      rw [errV_ok e5] at c5
      clear e5
      refine Late.Goes.one (i := 5) (by kernel_rfl) (by simp only [List.getElem?_toArray, List.getElem?_cons_succ, List.getElem?_cons_zero]; rfl) (fun K hK => ?_)
      clear hH
      go_simp
      go_at_call 57
      refine c5.mono ?_
      rintro e w5 ⟨rfl, hN5⟩
      have HA5 := Lib.hid (HA4.out.disk hN5)
      have HM5 := Lib.hid (HM4.out.but hN5.2 HG3.out.2)
      have HX5 := Lib.hid (HX4.out.but hN5.2 HG3.out.1)
      have HK5 := Lib.hid (HK4.out.disk hN5.2)
      clear c5 hN5
      refine hK.out _ _ ?_ (fun hH => ?_)
      · exact fun _ => ⟨HA5.out.log.cell 0, HX5.out⟩
      clear hK K
      have hH := hH rfl
      try simp only [Act.put, List.setIfInBounds_toArray, List.set_cons_zero, List.set_cons_succ]
      refine Late.Goes.takeT (i := 6) (v := ?_) (by simp only [List.getElem?_toArray, List.getElem?_cons_succ, List.getElem?_cons_zero]; rfl) (by kernel_rfl) (by kernel_rfl) (by kernel_rfl) (by kernel_rfl) (by kernel_rfl) (by exact fun _ _ _ h => h) (Or.inl ⟨by rfl, ?_⟩) hH ?_
      rotate_left
      · (intro wy hSw; (try dsimp only at hSw); have k0 := hSw.1; have m0 : wy.cell? ⟨b, 0, none⟩ = some _ := hSw.2.cell 0; have m1 : wy.cell? ⟨b, 1, none⟩ = some _ := hSw.2.cell 1; have m2 : wy.cell? ⟨b, 2, none⟩ = some _ := hSw.2.cell 2; go_simp; try (with_reducible rfl))
      try simp only [Act.put, List.setIfInBounds_toArray, List.set_cons_zero, List.set_cons_succ]
      refine Late.Goes.done (by kernel_rfl) ?_ _
      go_wp2_with fail
      refine Late.region_goes (fun V => V.cell? ⟨lb, 5, none⟩ = some (.slice az nz cz) ∧ Disk.Blk V b 72 #[.slice (some ⟨g', 0, none⟩) nums'.length c', .int .i64 (base' : Int), .bool begun']) (fun j => j == 14) (by kernel_rfl) ?_ (fun hH => ?_)
      · exact ⟨(HA5.out.below ((Below.refl _ w5).drew)).log.cell 5, HX5.out.but ((But.refl (fun _ => False) w5).drew) (fun h => h)⟩
      refine Late.Goes.takeT (i := 0) (v := ?_) (by simp only [List.getElem?_toArray, List.getElem?_cons_succ, List.getElem?_cons_zero]; rfl) (by kernel_rfl) (by kernel_rfl) (by kernel_rfl) (by kernel_rfl) (by kernel_rfl) (by exact fun _ _ _ h => h) (Or.inl ⟨by rfl, ?_⟩) hH ?_
      rotate_left
      · (intro wy hSw; (try dsimp only at hSw); have k0 := hSw.1; have m0 : wy.cell? ⟨b, 0, none⟩ = some _ := hSw.2.cell 0; have m1 : wy.cell? ⟨b, 1, none⟩ = some _ := hSw.2.cell 1; have m2 : wy.cell? ⟨b, 2, none⟩ = some _ := hSw.2.cell 2; go_simp; try (with_reducible rfl))
      try simp only [Act.put, List.setIfInBounds_toArray, List.set_cons_zero, List.set_cons_succ]
      refine Late.Goes.takeT (i := 1) (v := ?_) (by simp only [List.getElem?_toArray, List.getElem?_cons_succ, List.getElem?_cons_zero]; rfl) (by kernel_rfl) (by kernel_rfl) (by kernel_rfl) (by kernel_rfl) (by kernel_rfl) (by exact fun _ _ _ h => h) (Or.inl ⟨by rfl, ?_⟩) hH ?_
      rotate_left
      · (intro wy hSw; (try dsimp only at hSw); have k0 := hSw.1; have m0 : wy.cell? ⟨b, 0, none⟩ = some _ := hSw.2.cell 0; have m1 : wy.cell? ⟨b, 1, none⟩ = some _ := hSw.2.cell 1; have m2 : wy.cell? ⟨b, 2, none⟩ = some _ := hSw.2.cell 2; go_simp; try (with_reducible rfl))
      try simp only [Act.put, List.setIfInBounds_toArray, List.set_cons_zero, List.set_cons_succ]
      refine Late.Goes.takeT (i := 2) (v := ?_) (by simp only [List.getElem?_toArray, List.getElem?_cons_succ, List.getElem?_cons_zero]; rfl) (by kernel_rfl) (by kernel_rfl) (by kernel_rfl) (by kernel_rfl) (by kernel_rfl) (by exact fun _ _ _ h => h) (Or.inl ⟨by rfl, ?_⟩) hH ?_
      rotate_left
      · (intro wy hSw; (try dsimp only at hSw); have k0 := hSw.1; have m0 : wy.cell? ⟨b, 0, none⟩ = some _ := hSw.2.cell 0; have m1 : wy.cell? ⟨b, 1, none⟩ = some _ := hSw.2.cell 1; have m2 : wy.cell? ⟨b, 2, none⟩ = some _ := hSw.2.cell 2; go_simp; try (with_reducible rfl))
      try simp only [Act.put, List.setIfInBounds_toArray, List.set_cons_zero, List.set_cons_succ]
      refine Late.Goes.takeT (i := 3) (v := ?_) (by simp only [List.getElem?_toArray, List.getElem?_cons_succ, List.getElem?_cons_zero]; rfl) (by kernel_rfl) (by kernel_rfl) (by kernel_rfl) (by kernel_rfl) (by kernel_rfl) (by exact fun _ _ _ h => h) (Or.inl ⟨by rfl, ?_⟩) hH ?_
      rotate_left
      · (intro wy hSw; (try dsimp only at hSw); have k0 := hSw.1; have m0 : wy.cell? ⟨b, 0, none⟩ = some _ := hSw.2.cell 0; have m1 : wy.cell? ⟨b, 1, none⟩ = some _ := hSw.2.cell 1; have m2 : wy.cell? ⟨b, 2, none⟩ = some _ := hSw.2.cell 2; go_simp; try (with_reducible rfl))
      try simp only [Act.put, List.setIfInBounds_toArray, List.set_cons_zero, List.set_cons_succ]
      refine Late.Goes.takeT (i := 4) (v := ?_) (by simp only [List.getElem?_toArray, List.getElem?_cons_succ, List.getElem?_cons_zero]; rfl) (by kernel_rfl) (by kernel_rfl) (by kernel_rfl) (by kernel_rfl) (by kernel_rfl) (by exact fun _ _ _ h => h) (Or.inl ⟨by rfl, ?_⟩) hH ?_
      rotate_left
      · (intro wy hSw; (try dsimp only at hSw); have k0 := hSw.1; have m0 : wy.cell? ⟨b, 0, none⟩ = some _ := hSw.2.cell 0; have m1 : wy.cell? ⟨b, 1, none⟩ = some _ := hSw.2.cell 1; have m2 : wy.cell? ⟨b, 2, none⟩ = some _ := hSw.2.cell 2; go_simp; try (with_reducible rfl))
      try simp only [Act.put, List.setIfInBounds_toArray, List.set_cons_zero, List.set_cons_succ]
      refine Late.Goes.takeT (i := 5) (v := ?_) (by simp only [List.getElem?_toArray, List.getElem?_cons_succ, List.getElem?_cons_zero]; rfl) (by kernel_rfl) (by kernel_rfl) (by kernel_rfl) (by kernel_rfl) (by kernel_rfl) (by exact fun _ _ _ h => h) (Or.inl ⟨by rfl, ?_⟩) hH ?_
      rotate_left
      · (intro wy hSw; (try dsimp only at hSw); have k0 := hSw.1; have m0 : wy.cell? ⟨b, 0, none⟩ = some _ := hSw.2.cell 0; have m1 : wy.cell? ⟨b, 1, none⟩ = some _ := hSw.2.cell 1; have m2 : wy.cell? ⟨b, 2, none⟩ = some _ := hSw.2.cell 2; go_simp; try (with_reducible rfl))
      try simp only [Act.put, List.setIfInBounds_toArray, List.set_cons_zero, List.set_cons_succ]
      refine Late.Goes.takeT (i := 6) (v := ?_) (by simp only [List.getElem?_toArray, List.getElem?_cons_succ, List.getElem?_cons_zero]; rfl) (by kernel_rfl) (by kernel_rfl) (by kernel_rfl) (by kernel_rfl) (by kernel_rfl) (by exact fun _ _ _ h => h) (Or.inl ⟨by rfl, ?_⟩) hH ?_
      rotate_left
      · (intro wy hSw; (try dsimp only at hSw); have k0 := hSw.1; have m0 : wy.cell? ⟨b, 0, none⟩ = some _ := hSw.2.cell 0; have m1 : wy.cell? ⟨b, 1, none⟩ = some _ := hSw.2.cell 1; have m2 : wy.cell? ⟨b, 2, none⟩ = some _ := hSw.2.cell 2; go_simp; try (with_reducible rfl))
      try simp only [Act.put, List.setIfInBounds_toArray, List.set_cons_zero, List.set_cons_succ]
      refine Late.Goes.one (i := 7) (by kernel_rfl) (by simp only [List.getElem?_toArray, List.getElem?_cons_succ, List.getElem?_cons_zero]; rfl) (fun K hK => ?_)
      clear hH
      go_simp
      have hb6 := ((Below.refl w5.heap.size w5).drew).alloc (Nat.le_refl _) (.cells #[.int .i64 0] 3)
      have HA6 := Lib.hid (HA5.out.below hb6)
      have HM6 := Lib.hid (HM5.out.below hb6)
      have HX6 := Lib.hid (HX5.out.but (But.of_new hb6 (S := fun _ => False)) (fun h => h))
      have HK6 := Lib.hid (HK5.out.below hb6)
      clear hb6
      refine hK.out _ _ ?_ (fun hH => ?_)
      · exact fun _ => ⟨HA6.out.log.cell 5, HX6.out⟩
      clear hK K
      have hH := hH rfl
      try simp only [Act.put, List.setIfInBounds_toArray, List.set_cons_zero, List.set_cons_succ]
      refine Late.Goes.one (i := 8) (by kernel_rfl) (by simp only [List.getElem?_toArray, List.getElem?_cons_succ, List.getElem?_cons_zero]; rfl) (fun K hK => ?_)
      clear hH
      have hown : (w5.drew.alloc (.cells #[.int .i64 0] 3)).ownsRow 0 3 1 (.slice az nz cz) zs.length (intCells zs) := HA6.out.siz
      refine step_append_onto rfl (.tmp 33) (.tmp 34) _ rfl 0 3 i2 _ 1 8 Tryz.underlying60 hi2 hx0 hx1 hx2 rfl (by omega) (.slice az nz cz) zs.length (intCells zs) rfl hown (.slice (some ⟨w5.drew.heap.size, 0, none⟩) 1 1) 1 [.int .i64 0] rfl (sees_one _ _ _ _) (by intro u hu; rw [List.mem_singleton.1 hu]; rfl) (by unfold maxLen; omega) (by omega) (Nat.zero_le _) ?_
      intro v7 w7 ho7 hon7
      obtain ⟨g7, c7, rfl⟩ := own_slice ho7
      have hne1 : ∀ k, (Value.slice az nz cz).ownBlock = some k → k ≠ lb ∧ k ≠ b ∧ ¬ grow (grow F w2 w3) w3.drew w5 k := fun k hk => ⟨fun e => HTY.out _ _ _ _ _ _ _ _ HA6.out.siz HA6.out.log (by decide) (e ▸ hk), fun e => HTY.out _ _ _ _ _ _ _ _ HA6.out.siz HX6.out (by decide) (e ▸ hk), (HA6.out.fz k hk).1⟩
      have hlog7 := HA6.out.log.but hon7.but (fun e => (hne1 _ e.symm).1 rfl)
      have hX7 := HX6.out.but hon7.but (fun e => (hne1 _ e.symm).2.1 rfl)
      have hd7 := HA6.out.dsk.but_ hon7.but (fun k hk e => (hne1 _ e.symm).2.2 hk)
      have hm7 := HM6.out.but hon7.but (fun e => H0.out.2.2.2.1 e.symm)
      rw [show intCells zs ++ [Value.int .i64 0] = intCells (zs ++ [0]) from intCells_snoc zs 0] at ho7
      have HX7 := Lib.hid hX7
      have HL7 := Lib.hid hlog7
      have H7 := Lib.hid (And.intro ho7 (And.intro hd7 (And.intro hm7 (And.intro hon7 hne1))))
      clear ho7 hon7 hne1 hlog7 hX7 hd7 hm7 hown
      refine hK.out _ _ ?_ (fun hH => ?_)
      · exact fun _ => ⟨HL7.out.cell 5, HX7.out⟩
      clear hK K
      have hH := hH rfl
      try simp only [Act.put, List.setIfInBounds_toArray, List.set_cons_zero, List.set_cons_succ]
      refine Late.Goes.takeT (i := 9) (v := ?_) (by simp only [List.getElem?_toArray, List.getElem?_cons_succ, List.getElem?_cons_zero]; rfl) (by kernel_rfl) (by kernel_rfl) (by kernel_rfl) (by kernel_rfl) (by kernel_rfl) (by exact fun _ _ _ h => h) (Or.inl ⟨by rfl, ?_⟩) hH ?_
      rotate_left
      · (intro wy hSw; (try dsimp only at hSw); have k0 := hSw.1; have m0 : wy.cell? ⟨b, 0, none⟩ = some _ := hSw.2.cell 0; have m1 : wy.cell? ⟨b, 1, none⟩ = some _ := hSw.2.cell 1; have m2 : wy.cell? ⟨b, 2, none⟩ = some _ := hSw.2.cell 2; go_simp; try (with_reducible rfl))
      try simp only [Act.put, List.setIfInBounds_toArray, List.set_cons_zero, List.set_cons_succ]
      refine Late.Goes.takeT (i := 10) (v := ?_) (by simp only [List.getElem?_toArray, List.getElem?_cons_succ, List.getElem?_cons_zero]; rfl) (by kernel_rfl) (by kernel_rfl) (by kernel_rfl) (by kernel_rfl) (by kernel_rfl) (by exact fun _ _ _ h => h) (Or.inl ⟨by rfl, ?_⟩) hH ?_
      rotate_left
      · (intro wy hSw; (try dsimp only at hSw); have k0 := hSw.1; have m0 : wy.cell? ⟨b, 0, none⟩ = some _ := hSw.2.cell 0; have m1 : wy.cell? ⟨b, 1, none⟩ = some _ := hSw.2.cell 1; have m2 : wy.cell? ⟨b, 2, none⟩ = some _ := hSw.2.cell 2; go_simp; try (with_reducible rfl))
      try simp only [Act.put, List.setIfInBounds_toArray, List.set_cons_zero, List.set_cons_succ]
      refine Late.Goes.one (i := 11) (by kernel_rfl) (by simp only [List.getElem?_toArray, List.getElem?_cons_succ, List.getElem?_cons_zero]; rfl) (fun K hK => ?_)
      clear hH
      have l2 : w7.cell? ⟨lb, 2, none⟩ = some (.slice (some ⟨g, 0, none⟩) nums.length c) := HL7.out.cell 2
      have l3 : w7.cell? ⟨lb, 3, none⟩ = some (.int .i64 (base : Int)) := HL7.out.cell 3
      have l4 : w7.cell? ⟨lb, 4, none⟩ = some (.bool begun) := HL7.out.cell 4
      have y2 : w7.frozen? ⟨lb, 2, none⟩ = false := HL7.out.frozen 2
      have y3 : w7.frozen? ⟨lb, 3, none⟩ = false := HL7.out.frozen 3
      have y4 : w7.frozen? ⟨lb, 4, none⟩ = false := HL7.out.frozen 4
      go_simp
      clear l2 l3 l4 y2 y3 y4
      have hl8 := ((HL7.out.set_ 2 (.slice (some ⟨g', 0, none⟩) nums'.length c')).set_ 3 (.int .i64 (base' : Int))).set_ 4 (.bool begun')
      have hb8 := ((Disk.but_set w7 lb 2 (.slice (some ⟨g', 0, none⟩) nums'.length c')).setCell (p := ⟨lb, 3, none⟩) rfl (.int .i64 (base' : Int))).setCell (p := ⟨lb, 4, none⟩) rfl (.bool begun')
      obtain ⟨w8, hw8⟩ : ∃ W, W = ((w7.setCell ⟨lb, 2, none⟩ (.slice (some ⟨g', 0, none⟩) nums'.length c')).setCell ⟨lb, 3, none⟩ (.int .i64 (base' : Int))).setCell ⟨lb, 4, none⟩ (.bool begun') := ⟨_, rfl⟩
      rw [← hw8] at hl8 hb8 ⊢
      have hl8 : Disk.Blk w8 lb 77 (logC p limit g' nums'.length c' base' begun' (.slice az nz cz) false) := hl8
      have HL8 := Lib.hid hl8
      have HB8 := Lib.hid hb8
      have HX8 := Lib.hid (HX7.out.but hb8 (show ¬ b = lb from fun e => by have h1 := HX7.out; have h2 := HL7.out; exact (Disk.Blk.ne_ h1 h2 (by decide)) e))
      clear hw8 hl8 hb8
      refine hK.out _ _ ?_ (fun hH => ?_)
      · exact fun _ => ⟨HL8.out.cell 5, HX8.out⟩
      clear hK K
      have hH := hH rfl
      try simp only [Act.put, List.setIfInBounds_toArray, List.set_cons_zero, List.set_cons_succ]
      refine Late.Goes.takeT (i := 12) (v := ?_) (by simp only [List.getElem?_toArray, List.getElem?_cons_succ, List.getElem?_cons_zero]; rfl) (by kernel_rfl) (by kernel_rfl) (by kernel_rfl) (by kernel_rfl) (by kernel_rfl) (by exact fun _ _ _ h => h) (Or.inl ⟨by rfl, ?_⟩) hH ?_
      rotate_left
      · (intro wy hSw; (try dsimp only at hSw); have k0 := hSw.1; have m0 : wy.cell? ⟨b, 0, none⟩ = some _ := hSw.2.cell 0; have m1 : wy.cell? ⟨b, 1, none⟩ = some _ := hSw.2.cell 1; have m2 : wy.cell? ⟨b, 2, none⟩ = some _ := hSw.2.cell 2; go_simp; try (with_reducible rfl))
      try simp only [Act.put, List.setIfInBounds_toArray, List.set_cons_zero, List.set_cons_succ]
      refine Late.Goes.takeT (i := 13) (v := ?_) (by simp only [List.getElem?_toArray, List.getElem?_cons_succ, List.getElem?_cons_zero]; rfl) (by kernel_rfl) (by kernel_rfl) (by kernel_rfl) (by kernel_rfl) (by kernel_rfl) (by exact fun _ _ _ h => h) (Or.inl ⟨by rfl, ?_⟩) hH ?_
      rotate_left
      · (intro wy hSw; (try dsimp only at hSw); have k0 := hSw.1; have m0 : wy.cell? ⟨b, 0, none⟩ = some _ := hSw.2.cell 0; have m1 : wy.cell? ⟨b, 1, none⟩ = some _ := hSw.2.cell 1; have m2 : wy.cell? ⟨b, 2, none⟩ = some _ := hSw.2.cell 2; go_simp; try (with_reducible rfl))
      try simp only [Act.put, List.setIfInBounds_toArray, List.set_cons_zero, List.set_cons_succ]
      refine Late.Goes.one (i := 14) (by kernel_rfl) (by simp only [List.getElem?_toArray, List.getElem?_cons_succ, List.getElem?_cons_zero]; rfl) (fun K hK => ?_)
      clear hH
      have l5 : w8.cell? ⟨lb, 5, none⟩ = some (.slice az nz cz) := HL8.out.cell 5
      have y5 : w8.frozen? ⟨lb, 5, none⟩ = false := HL8.out.frozen 5
      go_simp
      clear l5 y5
      refine hK.out _ _ ?_ (fun _ => ?_)
      · exact fun h => by cases h
      clear hK K
      try simp only [Act.put, List.setIfInBounds_toArray, List.set_cons_zero, List.set_cons_succ]
      refine Late.Goes.done (by kernel_rfl) ?_ _
      go_wp2_with fail
      go_ret
      obtain ⟨ho7, hd7, hm7, hon7, hne1⟩ := H7.out
      have hb9 := HB8.out.setCell (p := ⟨lb, 5, none⟩) rfl (.slice (some ⟨g7, 0, none⟩) (zs.length + 1) c7)
      have hl9 := HL8.out.set_ 5 (.slice (some ⟨g7, 0, none⟩) (zs.length + 1) c7)
      have hflb := HA6.out.flb
      have hown7 : ∀ k, (Value.slice (some ⟨g7, 0, none⟩) (zs.length + 1) c7).ownBlock = some k → (Value.slice az nz cz).ownBlock = some k ∨ w5.heap.size + 1 ≤ k := fun k hk => by
        rcases onto_own hon7 hk with h1 | h1
        · exact .inl h1
        · refine .inr ?_
          simp at h1
          omega
      have hgF := HG3.out
      have hz := HA5.out
      have hlt5 := HA5.out.dsk.lt
      have hk := HK6.out
      have hs7 := hon7.grown.size
      have hs9 := hb9.size
      have hgF5 : ¬ grow (grow F w2 w3) w3.drew w5 g' := not_grow hgF.2 HM4.out.lt
      have hm9 := hm7.but hb9 (show ¬ g' = lb from H0.out.2.2.1)
      have hsz : w5.heap.size + 1 = (w5.drew.alloc (.cells #[.int .i64 0] 3)).heap.size := by simp
      refine ⟨grow (grow F w2 w3) w3.drew w5, .slice (some ⟨g7, 0, none⟩) (zs.length + 1) c7, ⟨fun j hj => ?_, ?_, fun j hj => ?_⟩, .inl ⟨?_, rfl, ⟨?_, hl9, hm9, ?_, HA5.out.flb, hgF5, fun k hk2 => ?_, H0.out.2.2.1⟩⟩⟩
      · rcases hk.sub j hj with h1 | h1
        · exact .inl h1
        · exact .inr ⟨h1.1, Nat.lt_of_lt_of_le h1.2 (Nat.le_trans hs7 hs9)⟩
      · have b1 := hk.but.trans hon7.but (fun k _ e => .inr (.inr e.symm))
        exact b1.trans hb9 (fun k _ e => .inr (.inl e))
      · rcases hown7 j hj with h1 | h1
        · exact .inl h1
        · exact .inr (by have := HK5.out.but.size; omega)
      · rw [HR.out, show rotA L (manFile nums' base' begun') = .new (seg L) :: sw (manFile nums' base' begun') from rfl, HQ3.out]; exact HE5.out
      · rw [HR.out, show rotA L (manFile nums' base' begun') = .new (seg L) :: sw (manFile nums' base' begun') from rfl, HQ3.out]
        exact hd7.but_ hb9 (fun k hk2 e => HA5.out.flb ((show k = lb from e) ▸ hk2))
      · rw [List.length_append]
        exact ownsRow_but ho7 hb9 (fun k hk2 e => HTY.out _ _ _ _ _ _ _ _ ho7 HL7.out (by decide) (show _ = some lb from (show k = lb from e) ▸ hk2))
      · rcases hown7 k hk2 with h1 | h1
        · exact ⟨(hz.fz k h1).1, fun e => H0.out.2.2.2.1 (e ▸ h1)⟩
        · exact ⟨fun hF => by have := hlt5 k hF; omega, fun e => by have := HM5.out.lt; omega⟩
    · have hv := errV_bad e5
      unfold After at c5
      rw [hv] at c5
      have HV := Lib.hid (And.intro e5 hv)
      clear e5 hv
      refine Late.Goes.one (i := 5) (by kernel_rfl) (by simp only [List.getElem?_toArray, List.getElem?_cons_succ, List.getElem?_cons_zero]; rfl) (fun K hK => ?_)
      clear hH
      go_simp
      go_at_call 57
      refine c5.mono ?_
      rintro e w5 ⟨rfl, hN5⟩
      have HA5 := Lib.hid (HA4.out.disk hN5)
      have HX5 := Lib.hid (HX4.out.but hN5.2 HG3.out.1)
      have HK5 := Lib.hid (HK4.out.disk hN5.2)
      clear c5 hN5
      refine hK.out _ _ ?_ (fun hH => ?_)
      · exact fun _ => ⟨HA5.out.log.cell 0, HX5.out⟩
      clear hK K
      have hH := hH rfl
      try simp only [Act.put, List.setIfInBounds_toArray, List.set_cons_zero, List.set_cons_succ]
      refine Late.Goes.takeT (i := 6) (v := ?_) (by simp only [List.getElem?_toArray, List.getElem?_cons_succ, List.getElem?_cons_zero]; rfl) (by kernel_rfl) (by kernel_rfl) (by kernel_rfl) (by kernel_rfl) (by kernel_rfl) (by exact fun _ _ _ h => h) (Or.inl ⟨by rfl, ?_⟩) hH ?_
      rotate_left
      · (intro wy hSw; (try dsimp only at hSw); have k0 := hSw.1; have m0 : wy.cell? ⟨b, 0, none⟩ = some _ := hSw.2.cell 0; have m1 : wy.cell? ⟨b, 1, none⟩ = some _ := hSw.2.cell 1; have m2 : wy.cell? ⟨b, 2, none⟩ = some _ := hSw.2.cell 2; go_simp; try (with_reducible rfl))
      try simp only [Act.put, List.setIfInBounds_toArray, List.set_cons_zero, List.set_cons_succ]
      refine Late.Goes.done (by kernel_rfl) ?_ _
      go_wp2_with fail
      go_ret
      have hR : R = run (sw (manFile nums' base' begun')) ((Eff.new (seg L)).call S).2 := by rw [HR.out, show rotA L (manFile nums' base' begun') = .new (seg L) :: sw (manFile nums' base' begun') from rfl, HQ3.out]
      rw [hR]
      exact ⟨_, _, HK5.out, .inr ⟨HV.out.1, by rw [HV.out.2]; rfl, HA5.out⟩⟩
  · have HQ3 := Lib.hid (run_cons_err (r := sw (manFile nums' base' begun')) e3)
    have hv := errV_bad e3
    unfold After at c3
    rw [hv] at c3
    have HV := Lib.hid (And.intro e3 hv)
    clear e3 hv
    refine Late.Goes.one (i := 7) (by kernel_rfl) (by simp only [List.getElem?_toArray, List.getElem?_cons_succ, List.getElem?_cons_zero]; rfl) (fun K hK => ?_)
    clear hH
    go_simp
    go_at_call 24
    refine c3.mono ?_
    rintro e w3 ⟨rfl, hN3⟩
    have HA3 := Lib.hid (HA2.out.disk hN3)
    have HX3 := Lib.hid (HX2.out.but hN3.2 hbF)
    have HK3 := Lib.hid (HK2.out.disk hN3.2)
    clear c3 hN3
    refine hK.out _ _ ?_ (fun hH => ?_)
    · exact fun _ => ⟨HA3.out.log.cell 0, HX3.out⟩
    clear hK K
    have hH := hH rfl
    try simp only [Act.put, List.setIfInBounds_toArray, List.set_cons_zero, List.set_cons_succ]
    refine Late.Goes.takeT (i := 8) (v := ?_) (by simp only [List.getElem?_toArray, List.getElem?_cons_succ, List.getElem?_cons_zero]; rfl) (by kernel_rfl) (by kernel_rfl) (by kernel_rfl) (by kernel_rfl) (by kernel_rfl) (by exact fun _ _ _ h => h) (Or.inl ⟨by rfl, ?_⟩) hH ?_
    rotate_left
    · (intro wy hSw; (try dsimp only at hSw); have k0 := hSw.1; have m0 : wy.cell? ⟨b, 0, none⟩ = some _ := hSw.2.cell 0; have m1 : wy.cell? ⟨b, 1, none⟩ = some _ := hSw.2.cell 1; have m2 : wy.cell? ⟨b, 2, none⟩ = some _ := hSw.2.cell 2; go_simp; try (with_reducible rfl))
    try simp only [Act.put, List.setIfInBounds_toArray, List.set_cons_zero, List.set_cons_succ]
    refine Late.Goes.done (by kernel_rfl) ?_ _
    go_wp2_with fail
    go_ret
    have hR : R = (Eff.new (seg L)).call S := by rw [HR.out, show rotA L (manFile nums' base' begun') = .new (seg L) :: sw (manFile nums' base' begun') from rfl, HQ3.out]
    rw [hR]
    exact ⟨_, _, HK3.out, .inr ⟨HV.out.1, by rw [HV.out.2]; rfl, HA3.out⟩⟩
end
end Go.Proofs.YtkppliljlcihmaaGreatDoor.Seg
