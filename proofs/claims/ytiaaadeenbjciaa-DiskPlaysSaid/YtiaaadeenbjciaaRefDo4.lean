/- The document's Do: number 4. MADE BY gen-do.py -/
import Derived.Test.YtiaaadeenbjciaaRefDid
import Derived.BigQuiet
import Derived.Deep.QuietTactic
namespace Go.Proofs.Ytiaaadeenbjciaa.Disk
open Go.Proofs.Ytiaaadeenbjciaa Go.Proofs.Ytiaaadeenbjciaa.Mem
open Go.ChangeShapes Go.WideShapes Go.ChangeAt Go.RowKit
open Go.Proofs (encStr)
set_option linter.unusedVariables false
set_option linter.unusedSimpArgs false
section
variable {w w' : World} {rp : Nat} {S : St} {lv : Value} {rs : List (Nm × REnt)} {pl : Bool} {lf kp : Int} {G : Nat → Prop}
set_option maxRecDepth 100000 in
set_option maxHeartbeats 8000000 in
theorem do4_any (h : RAt w rp S lv rs pl lf kp) (hn : rs.length ≤ 1000000) (hd : S.down = false) (hu : used S ≤ 1000000000) {m : Int} (s t : ByteArray) (a : Option Addr) (len cap : Nat) {e : REnt} (hl : look s.data.toList rs = some e) :
    Calls Try.prog 22 #[.pointer (some ⟨rp, 0, none⟩), .int .i64 4, .string s, .string t, .slice a len cap, .int .i64 m] w (Did w rp lv rs (effect S fun T => { T with files := moved s.data.toList t.data.toList T.files })) := by
  obtain ⟨F, hF0⟩ : ∃ F : St → St, F = (fun T => { T with files := moved s.data.toList t.data.toList T.files }) := ⟨_, rfl⟩
  rw [← hF0]
  have HF0 := Lib.hid hF0
  clear hF0
  have hP0 := at_pos h.riseR hl
  obtain ⟨P, hP⟩ : ∃ P, P = pos s.data.toList rs := ⟨_, rfl⟩
  have HP := Lib.hid hP
  have HL := Lib.hid hl
  have hent := h.ent (List.mem_of_getElem? hP0)
  have hle : e.bytes.length ≤ 1000000000 := by
    have := total_le_of (f := fun e : REnt => e.bytes.length) (look_mem hl)
    rw [rused_eq h] at this
    exact Nat.le_trans this hu
  have HU := Lib.hid hu
  have HN := Lib.hid hn
  have c6 : w.cell? ⟨rp, 6, none⟩ = some (.bool S.down) := h.blk.cell 6
  rw [hd] at c6
  have hf_ := rfind_at h hn s
  rw [hl] at hf_
  rw [← hP] at hf_ hP0
  have HF := Lib.hid hf_
  have HH := Lib.hid h
  have HP0 := Lib.hid hP0
  have HENT := Lib.hid hent
  clear h hn hl hd hu hf_ hP hP0 hent
  go_enter Try.func22, Try.ntmps22
  go_wp2_with fail
  refine HF.out.mono ?_
  rintro x w' ⟨rfl, nd, rfl⟩
  have hbW : But (fun _ => False) w (w.drewN nd) := (But.refl _ w).drewN nd
  have hA := HH.out.drewN nd
  generalize w.drewN nd = W at hA hbW ⊢
  clear HF
  obtain ⟨al, cl, rfl, hlc, hcm, hcells⟩ := hA.shape
  obtain ⟨g, rfl, -⟩ := hcells _ _ HP0.out
  have c1 := fun n => show (W.drewN n).cell? ⟨rp, 1, none⟩ = some (.slice (some ⟨g, 0, none⟩) rs.length cl) from (hA.drewN n).blk.cell 1
  have c0 := fun n => show (W.drewN n).cell? ⟨rp, 0, none⟩ = some (.int .i64 S.cap) from (hA.drewN n).blk.cell 0
  have hPl : P < rs.length := get_lt HP0.out
  have i0 : (0 : Int) ≤ (P : Int) := Int.natCast_nonneg _
  have i1 : (P : Int) < (rs.length : Int) := by omega
  have hnn : (rs.length : Int) ≤ 1000000 := by have := HN.out; omega
  have HA := Lib.hid hA
  have HBW := Lib.hid hbW
  have HCM := Lib.hid hcm
  have HLC := Lib.hid hlc
  clear hA hlc hcm hcells hbW
  go_wp2_with fail
  go_quiet (fail)
  have hbN := HBW.out.drewN nq
  have hA1 := HA.out.drewN nq
  go_wp2_with fail
  rcases hnow : now S with _ | k0
  · refine (reffect_yes hA1 hnow).mono ?_
    rintro x w2 ⟨rfl, lf2, hA2, hb2⟩
    have HDONE := Lib.hid (fun (w3 : World) (S3 : St) => did_done (w3 := w3) (S3 := S3) (lv := .slice (some ⟨g, 0, none⟩) rs.length cl) (rs := rs) F hnow hbN hb2)
    have hb02 := ((hbN.mono (fun _ _ e => e.elim) : But (fun k => k = rp) w _)).trans hb2 (fun _ _ h => h)
    clear hA1 hb2 hnow hbN c0 c1
    obtain ⟨ab, cb, hev, hrowb, hlb, hcb, hsh⟩ := rent_shape (hA2.ents _ (List.mem_of_getElem? HP0.out)) HENT.out.2
    have d1 : w2.cell? ⟨rp, 1, none⟩ = some (.slice (some ⟨g, 0, none⟩) rs.length cl) := hA2.blk.cell 1
    obtain ⟨k0, k1, k2, fz, hgW⟩ := hA2.cellsAt HP0.out
    have hrpW := hA2.blk.lt
    simp only at k1 k2 hev
    rw [hev] at k1
    have hRE := hA2.ents _ (List.mem_of_getElem? HP0.out)
    have HRE := Lib.hid hRE
    have HEV := Lib.hid hev
    have HA2 := Lib.hid hA2
    clear hRE hrowb hsh hev hcb hlb hA2
    go_wp2_with fail
    have hb3 : But (fun _ => False) w2 (w2.alloc (.cells #[.string t, .slice ab e.bytes.length cb, .int .i64 e.synced] 46)) := (But.refl _ w2).alloc _
    have hkB := Blk.new w2 46 #[.string t, .slice ab e.bytes.length cb, .int .i64 e.synced]
    have hA3 := HA2.out.but hb3 (fun _ _ e => e)
    generalize w2.alloc (.cells #[.string t, .slice ab e.bytes.length cb, .int .i64 e.synced] 46) = w3 at hb3 hkB hA3 ⊢
    obtain ⟨b, hbb⟩ : ∃ b, b = w2.heap.size := ⟨_, rfl⟩
    rw [← hbb] at hkB ⊢
    have hbrp : b ≠ rp := by omega
    clear k0 k1 k2 d1 fz hbb
    refine (rdrop_any hA3 HN.out s).mono ?_
    rintro x w4 ⟨rfl, lv4, hA4, hb4, hn4⟩
    have hl4 : (del s.data.toList rs).length ≤ 1000000 := Nat.le_trans (List.length_filter_le _ _) HN.out
    have hkB4 := hkB.but hb4 hbrp
    have HA4 := Lib.hid hA4
    have HB4 := Lib.hid ((hb3.mono (T := fun k => k = rp) (fun _ _ e => e.elim)).trans' hb4)
    clear hA3 hA4 hb4 hn4 hkB hb3
    go_wp2_with fail
    refine (rdrop_any HA4.out hl4 t).mono ?_
    rintro x w5 ⟨rfl, lv5, hA5, hb5, hn5⟩
    have hl5 : (del t.data.toList (del s.data.toList rs)).length ≤ 1000000 := Nat.le_trans (List.length_filter_le _ _) hl4
    have hkB5 := hkB4.but hb5 hbrp
    have hbA := HB4.out.trans' hb5
    have he5 : REntAt w5 e := ownsRow_but HRE.out hbA (fun k hk e2 => own_blk_ne HRE.out HA2.out.blk (by decide) (e2 ▸ hk))
    have kp_ := rput_any hA5 hl5 t e he5 HENT.out look_del_same
    rw [HEV.out] at kp_
    have KP := Lib.hid kp_
    have k0 : w5.cell? ⟨b, 0, none⟩ = some (.string t) := hkB5.cell 0
    have k1 : w5.cell? ⟨b, 1, none⟩ = some (.slice ab e.bytes.length cb) := hkB5.cell 1
    have k2 : w5.cell? ⟨b, 2, none⟩ = some (.int .i64 e.synced) := hkB5.cell 2
    have HBA := Lib.hid hbA
    clear hA5 hb5 hn5 hkB4 hkB5 he5 kp_ hbA
    go_wp2_with fail
    refine KP.out.mono ?_
    rintro x w6 ⟨rfl, lv6, hA6, hb6, hn6⟩
    have hT : Turned w2 rp (.slice (some ⟨g, 0, none⟩) rs.length cl) rs _ w6 := ⟨_, _, _, _, _, hA6, (HBA.out.trans' hb6).mono (fun _ _ e => .inl e), fun k hk => by
      rcases hk with h1 | h1 | ⟨x, hx, h1⟩
      · exact .inl (.inl h1)
      · exact .inr (Nat.le_trans HBA.out.size (hn6 k h1))
      · rcases mem_ins.1 hx with rfl | hx
        · exact .inl (.inr (.inr ⟨_, List.mem_of_getElem? HP0.out, h1⟩))
        · exact .inl (.inr (.inr ⟨x, (mem_del.1 (mem_del.1 hx).1).1, h1⟩))⟩
    have HT := Lib.hid hT
    have hlS : look s.data.toList (stepS S).files = some e.file := by rw [HA2.out.look, HL.out]; rfl
    have HMV := Lib.hid (show moved s.data.toList t.data.toList (stepS S).files = _ by unfold moved; rw [hlS])
    clear hA6 hb6 hn6 hT KP hlS k0 k1 k2
    go_wp2_with fail
    go_ret
    exact HDONE.out _ _ HT.out (by rw [HF0.out]; show _ = ({ stepS S with files := moved _ _ (stepS S).files } : St); rw [HMV.out])
  · obtain rfl := now_keep hA1 hnow
    refine (reffect_no hA1 hnow HU.out HN.out).mono ?_
    rintro x w2 ⟨rfl, rs2, hA2, hb2, hf2⟩
    have HCR := Lib.hid (did_crash F hnow hbN hA2 hb2 hf2)
    clear hA1 hA2 hb2 hf2 hnow hbN c0 c1
    go_wp2_with fail
    go_ret
    exact HCR.out
end
end Go.Proofs.Ytiaaadeenbjciaa.Disk
