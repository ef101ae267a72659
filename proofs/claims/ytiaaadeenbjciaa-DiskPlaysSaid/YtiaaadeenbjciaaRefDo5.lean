/- The document's Do: number 5. MADE BY gen-do.py -/
import Derived.Test.YtiaaadeenbjciaaRefDid
import Derived.BigQuiet
import Derived.Deep.QuietTactic
namespace Go.Proofs.Ytiaaadeenbjciaa.Disk
open Go.Proofs.Ytiaaadeenbjciaa Go.Proofs.Ytiaaadeenbjciaa.Mem
open Go.ChangeShapes Go.WideShapes Go.ChangeAt Go.RowKit
open Go.Proofs (encStr)
set_option linter.unusedVariables false
set_option linter.unusedSimpArgs false
section
variable {w w' : World} {rp : Nat} {S : St} {lv : Value} {rs : List (Nm × REnt)} {pl : Bool} {lf kp : Int} {G : Nat → Prop}
set_option maxRecDepth 100000 in
set_option maxHeartbeats 8000000 in
theorem do5_any (h : RAt w rp S lv rs pl lf kp) (hn : rs.length ≤ 1000000) (hd : S.down = false) (hu : used S ≤ 1000000000) {m : Int} (s t : ByteArray) (a : Option Addr) (len cap : Nat) {e : REnt} (hl : look s.data.toList rs = some e) :
    Calls Try.prog 22 #[.pointer (some ⟨rp, 0, none⟩), .int .i64 5, .string s, .string t, .slice a len cap, .int .i64 m] w (Did w rp lv rs (effect S fun T => { T with files := del s.data.toList T.files })) := by
  obtain ⟨F, hF0⟩ : ∃ F : St → St, F = (fun T => { T with files := del s.data.toList T.files }) := ⟨_, rfl⟩
  rw [← hF0]
  have HF0 := Lib.hid hF0
  clear hF0
  have hP0 := at_pos h.riseR hl
  obtain ⟨P, hP⟩ : ∃ P, P = pos s.data.toList rs := ⟨_, rfl⟩
  have HP := Lib.hid hP
  have HL := Lib.hid hl
  have hent := h.ent (List.mem_of_getElem? hP0)
  have hle : e.bytes.length ≤ 1000000000 := by
    have := total_le_of (f := fun e : REnt => e.bytes.length) (look_mem hl)
    rw [rused_eq h] at this
    exact Nat.le_trans this hu
  have HU := Lib.hid hu
  have HN := Lib.hid hn
  have c6 : w.cell? ⟨rp, 6, none⟩ = some (.bool S.down) := h.blk.cell 6
  rw [hd] at c6
  have hf_ := rfind_at h hn s
  rw [hl] at hf_
  rw [← hP] at hf_ hP0
  have HF := Lib.hid hf_
  have HH := Lib.hid h
  have HP0 := Lib.hid hP0
  have HENT := Lib.hid hent
  clear h hn hl hd hu hf_ hP hP0 hent
  go_enter Try.func22, Try.ntmps22
  go_wp2_with fail
  refine HF.out.mono ?_
  rintro x w' ⟨rfl, nd, rfl⟩
  have hbW : But (fun _ => False) w (w.drewN nd) := (But.refl _ w).drewN nd
  have hA := HH.out.drewN nd
  generalize w.drewN nd = W at hA hbW ⊢
  clear HF
  obtain ⟨al, cl, rfl, hlc, hcm, hcells⟩ := hA.shape
  obtain ⟨g, rfl, -⟩ := hcells _ _ HP0.out
  have c1 := fun n => show (W.drewN n).cell? ⟨rp, 1, none⟩ = some (.slice (some ⟨g, 0, none⟩) rs.length cl) from (hA.drewN n).blk.cell 1
  have c0 := fun n => show (W.drewN n).cell? ⟨rp, 0, none⟩ = some (.int .i64 S.cap) from (hA.drewN n).blk.cell 0
  have hPl : P < rs.length := get_lt HP0.out
  have i0 : (0 : Int) ≤ (P : Int) := Int.natCast_nonneg _
  have i1 : (P : Int) < (rs.length : Int) := by omega
  have hnn : (rs.length : Int) ≤ 1000000 := by have := HN.out; omega
  have HA := Lib.hid hA
  have HBW := Lib.hid hbW
  have HCM := Lib.hid hcm
  have HLC := Lib.hid hlc
  clear hA hlc hcm hcells hbW
  go_wp2_with fail
  go_quiet (fail)
  have hbN := HBW.out.drewN nq
  have hA1 := HA.out.drewN nq
  go_wp2_with fail
  rcases hnow : now S with _ | k0
  · refine (reffect_yes hA1 hnow).mono ?_
    rintro x w2 ⟨rfl, lf2, hA2, hb2⟩
    have HDONE := Lib.hid (fun (w3 : World) (S3 : St) => did_done (w3 := w3) (S3 := S3) (lv := .slice (some ⟨g, 0, none⟩) rs.length cl) (rs := rs) F hnow hbN hb2)
    have hb02 := ((hbN.mono (fun _ _ e => e.elim) : But (fun k => k = rp) w _)).trans hb2 (fun _ _ h => h)
    clear hA1 hb2 hnow hbN c0 c1
    go_wp2_with fail
    refine (rdrop_any hA2 HN.out s).mono ?_
    rintro x w3 ⟨rfl, lv3, hA3, hb3, hn3⟩
    have hT : Turned w2 rp (.slice (some ⟨g, 0, none⟩) rs.length cl) rs _ w3 := ⟨_, _, _, _, _, hA3, hb3.mono (fun _ _ e => .inl e), fun k hk => by
      rcases hk with h1 | h1 | ⟨x, hx, h1⟩
      · exact .inl (.inl h1)
      · exact (hn3 k h1).imp (fun e => .inr (.inl e)) id
      · exact .inl (.inr (.inr ⟨x, (mem_del.1 hx).1, h1⟩))⟩
    have HT := Lib.hid hT
    clear hA2 hA3 hb3 hn3 hT
    go_wp2_with fail
    go_ret
    exact HDONE.out _ _ HT.out (by rw [HF0.out])
  · obtain rfl := now_keep hA1 hnow
    refine (reffect_no hA1 hnow HU.out HN.out).mono ?_
    rintro x w2 ⟨rfl, rs2, hA2, hb2, hf2⟩
    have HCR := Lib.hid (did_crash F hnow hbN hA2 hb2 hf2)
    clear hA1 hA2 hb2 hf2 hnow hbN c0 c1
    go_wp2_with fail
    go_ret
    exact HCR.out
end
end Go.Proofs.Ytiaaadeenbjciaa.Disk
