/- The document's Do: all of it. MADE BY gen-do.py -/
import Derived.Test.YtiaaadeenbjciaaRefDo0
import Derived.Test.YtiaaadeenbjciaaRefDo1
import Derived.Test.YtiaaadeenbjciaaRefDo2
import Derived.Test.YtiaaadeenbjciaaRefDo3
import Derived.Test.YtiaaadeenbjciaaRefDo4
import Derived.Test.YtiaaadeenbjciaaRefDo5
namespace Go.Proofs.Ytiaaadeenbjciaa.Disk
open Go.Proofs.Ytiaaadeenbjciaa Go.Proofs.Ytiaaadeenbjciaa.Mem
open Go.ChangeShapes Go.WideShapes Go.ChangeAt Go.RowKit
open Go.Proofs (encStr)
set_option linter.unusedVariables false
set_option linter.unusedSimpArgs false
section
variable {w w' : World} {rp : Nat} {S : St} {lv : Value} {rs : List (Nm × REnt)} {pl : Bool} {lf kp : Int} {G : Nat → Prop}
set_option maxRecDepth 100000 in
set_option maxHeartbeats 4000000 in
theorem do_arg (h : RAt w rp S lv rs pl lf kp) (hn : rs.length ≤ 1000000) (hd : S.down = false) (hu : used S ≤ 1000000000) (m : Int) (s t : ByteArray) (a : Option Addr) (len cap : Nat) {e : REnt} (hl : look s.data.toList rs = some e) (hm : m < 0 ∨ (e.bytes.length : Int) < m) :
    Calls Try.prog 22 #[.pointer (some ⟨rp, 0, none⟩), .int .i64 3, .string s, .string t, .slice a len cap, .int .i64 m] w fun x w' => x = .returned (.int .i64 1) ∧ But (fun _ => False) w w' := by
  have hP0 := at_pos h.riseR hl
  obtain ⟨P, hP⟩ : ∃ P, P = pos s.data.toList rs := ⟨_, rfl⟩
  have HP := Lib.hid hP
  have HL := Lib.hid hl
  have hent := h.ent (List.mem_of_getElem? hP0)
  have hle : e.bytes.length ≤ 1000000000 := by
    have := total_le_of (f := fun e : REnt => e.bytes.length) (look_mem hl)
    rw [rused_eq h] at this
    exact Nat.le_trans this hu
  have HU := Lib.hid hu
  have HN := Lib.hid hn
  have c6 : w.cell? ⟨rp, 6, none⟩ = some (.bool S.down) := h.blk.cell 6
  rw [hd] at c6
  have hf_ := rfind_at h hn s
  rw [hl] at hf_
  rw [← hP] at hf_ hP0
  have HF := Lib.hid hf_
  have HH := Lib.hid h
  have HP0 := Lib.hid hP0
  have HENT := Lib.hid hent
  clear h hn hl hd hu hf_ hP hP0 hent
  go_enter Try.func22, Try.ntmps22
  go_wp2_with fail
  refine HF.out.mono ?_
  rintro x w' ⟨rfl, nd, rfl⟩
  have hbW : But (fun _ => False) w (w.drewN nd) := (But.refl _ w).drewN nd
  have hA := HH.out.drewN nd
  generalize w.drewN nd = W at hA hbW ⊢
  clear HF
  obtain ⟨al, cl, rfl, hlc, hcm, hcells⟩ := hA.shape
  obtain ⟨g, rfl, -⟩ := hcells _ _ HP0.out
  have c1 := fun n => show (W.drewN n).cell? ⟨rp, 1, none⟩ = some (.slice (some ⟨g, 0, none⟩) rs.length cl) from (hA.drewN n).blk.cell 1
  have c0 := fun n => show (W.drewN n).cell? ⟨rp, 0, none⟩ = some (.int .i64 S.cap) from (hA.drewN n).blk.cell 0
  have hPl : P < rs.length := get_lt HP0.out
  have i0 : (0 : Int) ≤ (P : Int) := Int.natCast_nonneg _
  have i1 : (P : Int) < (rs.length : Int) := by omega
  have hnn : (rs.length : Int) ≤ 1000000 := by have := HN.out; omega
  obtain ⟨ab, cb, hev, -, -, hcb, -⟩ := rent_shape (hA.ents _ (List.mem_of_getElem? HP0.out)) HENT.out.2
  have k1 := fun n => show (W.drewN n).cell? ⟨g, P * 3 + 1, none⟩ = some (.slice ab e.bytes.length cb) from hev ▸ ((hA.drewN n).cellsAt HP0.out).2.1
  have HEV := Lib.hid hev
  clear hev
  have HA := Lib.hid hA
  have HBW := Lib.hid hbW
  have HCM := Lib.hid hcm
  have HLC := Lib.hid hlc
  clear hA hlc hcm hcells hbW
  go_wp2_with fail
  go_quiet (fail)
  rcases hm with hm | hm
  · have t2 : decide (m < 0) = true := by simpa using hm
    clear hm
    go_wp2_with fail
    go_ret
    exact ⟨rfl, HBW.out.drewN _⟩
  · have t2 : decide (m < 0) = false := by simp; omega
    have t3 : decide ((e.bytes.length : Int) < m) = true := by simpa using hm
    clear hm
    go_wp2_with fail
    go_ret
    exact ⟨rfl, HBW.out.drewN _⟩
theorem says_same {W : World} (h : RAt w rp S lv rs pl lf kp) (hF : ∀ k, rfoot rp lv rs k → G k) (hlt : ∀ k, G k → k < w.heap.size) (hb : But (fun _ => False) w W) (n : Int) : DoSays w rp G (n, S) (.returned (.int .i64 n)) W :=
  ⟨rfl, (Turned.of_same (h.but hb (fun _ _ e => e)) hb).says hF hlt⟩
theorem says_did {R : Int × St} {x : Ending} (h : Did w rp lv rs R x w') (hF : ∀ k, rfoot rp lv rs k → G k) (hlt : ∀ k, G k → k < w.heap.size) : DoSays w rp G R x w' :=
  ⟨h.1, h.2.says hF hlt⟩
theorem rdo0 (h : RHas w rp S G) (hn : S.files.length ≤ 1000000) (m : Int) (s t : ByteArray) (a : Option Addr) (len cap : Nat) (hu : used S ≤ 1000000000) :
    Calls Try.prog 22 #[.pointer (some ⟨rp, 0, none⟩), .int .i64 0, .string s, .string t, .slice a len cap, .int .i64 m] w (DoSays w rp G (create S s.data.toList)) := by
  obtain ⟨lv, rs, pl, lf, kp, hA, hF, hlt⟩ := h
  have hn2 : rs.length ≤ 1000000 := by rw [← rlen_of hA]; exact hn
  rcases hd : S.down with _ | _
  rotate_left
  · refine (do_down hA hd _ _ _ _ _ _ _).mono ?_
    rintro x w' ⟨rfl, rfl⟩
    have e1 : create S s.data.toList = (15, S) := by unfold create; rw [hd]; rfl
    rw [e1]
    exact says_same hA hF hlt (But.refl _ _) 15
  rcases hl : look s.data.toList rs with _ | e
  · have hlS : look s.data.toList S.files = none := by rw [hA.look, hl]; rfl
    by_cases hf : 1000 ≤ rs.length
    · refine (do_full0 hA hn2 hd _ _ _ _ _ _ hl hf).mono ?_
      rintro x w' ⟨rfl, hb⟩
      have e1 : create S s.data.toList = (12, S) := by unfold create; rw [hd, hlS, if_neg (by simp), if_neg (by simp), if_pos (by rw [rlen_of hA]; exact hf)]
      rw [e1]
      exact says_same hA hF hlt hb 12
    · refine (do0_any hA hn2 hd hu s t a len cap hl (by omega)).mono ?_
      intro x w' hx
      have e1 : create S s.data.toList = effect S (fun T => { T with files := ins s.data.toList ⟨[], 0⟩ T.files }) := by unfold create; rw [hd, hlS, if_neg (by simp), if_neg (by simp), if_neg (by rw [rlen_of hA]; exact hf)]
      rw [e1]
      exact says_did hx hF hlt
  · have hlS : look s.data.toList S.files = some e.file := by rw [hA.look, hl]; rfl
    refine (do_twice hA hn2 hd _ _ _ _ _ _ hl).mono ?_
    rintro x w' ⟨rfl, hb⟩
    have e1 : create S s.data.toList = (6, S) := by unfold create; rw [hd, hlS]; rfl
    rw [e1]
    exact says_same hA hF hlt hb 6
theorem rdo1 (h : RHas w rp S G) (hn : S.files.length ≤ 1000000) (m : Int) (s t : ByteArray) (a : Option Addr) (len cap : Nat) (zs : List Int) (hr : Row w a len zs) (hnil : a = none → cap = 0) (hna : ∀ p, a = some p → 0 < len → ¬ G p.block) (hu : used S + len ≤ 1000000000) :
    Calls Try.prog 22 #[.pointer (some ⟨rp, 0, none⟩), .int .i64 1, .string s, .string t, .slice a len cap, .int .i64 m] w (DoSays w rp G (append S s.data.toList zs)) := by
  obtain ⟨lv, rs, pl, lf, kp, hA, hF, hlt⟩ := h
  have hn2 : rs.length ≤ 1000000 := by rw [← rlen_of hA]; exact hn
  rcases hd : S.down with _ | _
  rotate_left
  · refine (do_down hA hd _ _ _ _ _ _ _).mono ?_
    rintro x w' ⟨rfl, rfl⟩
    have e1 : append S s.data.toList zs = (15, S) := by unfold append; rw [hd]; rfl
    rw [e1]
    exact says_same hA hF hlt (But.refl _ _) 15
  rcases hl : look s.data.toList rs with _ | e
  · have hlS : look s.data.toList S.files = none := by rw [hA.look, hl]; rfl
    refine (do_none hA hn2 hd 1 _ _ _ _ _ _ hl (by decide)).mono ?_
    rintro x w' ⟨rfl, hb⟩
    have e1 : append S s.data.toList zs = (5, S) := by unfold append; rw [hd, hlS]; rfl
    rw [e1]
    exact says_same hA hF hlt hb 5
  · have hlS : look s.data.toList S.files = some e.file := by rw [hA.look, hl]; rfl
    by_cases hf : S.cap < ((used S + len : Nat) : Int)
    · refine (do_full1 hA hn2 hd _ _ _ _ _ _ hl hu hf).mono ?_
      rintro x w' ⟨rfl, hb⟩
      have e1 : append S s.data.toList zs = (12, S) := by unfold append; rw [hd, hlS, if_neg (by simp), if_neg (by simp), if_pos (by rw [hr.1]; exact hf)]
      rw [e1]
      exact says_same hA hF hlt hb 12
    · refine (do1_any hA hn2 hd (by omega) s t a len cap zs hr hnil (fun p hp hl0 e0 => hna p hp hl0 (e0 ▸ hF _ (.inl rfl))) hl hu (by omega)).mono ?_
      intro x w' hx
      have e1 : append S s.data.toList zs = effect S (fun T => { T with files := upd s.data.toList (fun f => ⟨f.bytes ++ zs, f.synced⟩) T.files }) := by unfold append; rw [hd, hlS, if_neg (by simp), if_neg (by simp), if_neg (by rw [hr.1]; exact hf)]
      rw [e1]
      exact says_did hx hF hlt
theorem rdo2 (h : RHas w rp S G) (hn : S.files.length ≤ 1000000) (m : Int) (s t : ByteArray) (a : Option Addr) (len cap : Nat) (hu : used S ≤ 1000000000) :
    Calls Try.prog 22 #[.pointer (some ⟨rp, 0, none⟩), .int .i64 2, .string s, .string t, .slice a len cap, .int .i64 m] w (DoSays w rp G (sync S s.data.toList)) := by
  obtain ⟨lv, rs, pl, lf, kp, hA, hF, hlt⟩ := h
  have hn2 : rs.length ≤ 1000000 := by rw [← rlen_of hA]; exact hn
  rcases hd : S.down with _ | _
  rotate_left
  · refine (do_down hA hd _ _ _ _ _ _ _).mono ?_
    rintro x w' ⟨rfl, rfl⟩
    have e1 : sync S s.data.toList = (15, S) := by unfold sync; rw [hd]; rfl
    rw [e1]
    exact says_same hA hF hlt (But.refl _ _) 15
  rcases hl : look s.data.toList rs with _ | e
  · have hlS : look s.data.toList S.files = none := by rw [hA.look, hl]; rfl
    refine (do_none hA hn2 hd 2 _ _ _ _ _ _ hl (by decide)).mono ?_
    rintro x w' ⟨rfl, hb⟩
    have e1 : sync S s.data.toList = (5, S) := by unfold sync; rw [hd, hlS]; rfl
    rw [e1]
    exact says_same hA hF hlt hb 5
  · have hlS : look s.data.toList S.files = some e.file := by rw [hA.look, hl]; rfl
    refine (do2_any hA hn2 hd hu s t a len cap hl).mono ?_
    intro x w' hx
    have e1 : sync S s.data.toList = effect S (fun T => { T with files := upd s.data.toList (fun f => ⟨f.bytes, f.bytes.length⟩) T.files }) := by unfold sync; rw [hd, hlS]; rfl
    rw [e1]
    exact says_did hx hF hlt
theorem rdo3 (h : RHas w rp S G) (hn : S.files.length ≤ 1000000) (m : Int) (s t : ByteArray) (a : Option Addr) (len cap : Nat) (hu : used S ≤ 1000000000) :
    Calls Try.prog 22 #[.pointer (some ⟨rp, 0, none⟩), .int .i64 3, .string s, .string t, .slice a len cap, .int .i64 m] w (DoSays w rp G (cut S s.data.toList m)) := by
  obtain ⟨lv, rs, pl, lf, kp, hA, hF, hlt⟩ := h
  have hn2 : rs.length ≤ 1000000 := by rw [← rlen_of hA]; exact hn
  rcases hd : S.down with _ | _
  rotate_left
  · refine (do_down hA hd _ _ _ _ _ _ _).mono ?_
    rintro x w' ⟨rfl, rfl⟩
    have e1 : cut S s.data.toList m = (15, S) := by unfold cut; rw [hd]; rfl
    rw [e1]
    exact says_same hA hF hlt (But.refl _ _) 15
  rcases hl : look s.data.toList rs with _ | e
  · have hlS : look s.data.toList S.files = none := by rw [hA.look, hl]; rfl
    refine (do_none hA hn2 hd 3 _ _ _ _ _ _ hl (by decide)).mono ?_
    rintro x w' ⟨rfl, hb⟩
    have e1 : cut S s.data.toList m = (5, S) := by unfold cut; rw [hd, hlS]; rfl
    rw [e1]
    exact says_same hA hF hlt hb 5
  · have hlS : look s.data.toList S.files = some e.file := by rw [hA.look, hl]; rfl
    by_cases hm : m < 0 ∨ (e.bytes.length : Int) < m
    · refine (do_arg hA hn2 hd hu _ _ _ _ _ _ hl hm).mono ?_
      rintro x w' ⟨rfl, hb⟩
      have e1 : cut S s.data.toList m = (1, S) := by unfold cut; rw [hd, hlS, if_neg (by simp)]; exact if_pos hm
      rw [e1]
      exact says_same hA hF hlt hb 1
    · obtain ⟨q, rfl⟩ := Int.eq_ofNat_of_zero_le (show 0 ≤ m by omega)
      refine (do3_any hA hn2 hd hu q s t a len cap hl (by omega)).mono ?_
      intro x w' hx
      have e1 : cut S s.data.toList (q : Int) = effect S (fun T => { T with files := upd s.data.toList (fun f => ⟨f.bytes.take q, min f.synced q⟩) T.files }) := by unfold cut; rw [hd, hlS, if_neg (by simp)]; exact if_neg hm
      rw [e1]
      exact says_did hx hF hlt
theorem rdo4 (h : RHas w rp S G) (hn : S.files.length ≤ 1000000) (m : Int) (s t : ByteArray) (a : Option Addr) (len cap : Nat) (hu : used S ≤ 1000000000) :
    Calls Try.prog 22 #[.pointer (some ⟨rp, 0, none⟩), .int .i64 4, .string s, .string t, .slice a len cap, .int .i64 m] w (DoSays w rp G (rename S s.data.toList t.data.toList)) := by
  obtain ⟨lv, rs, pl, lf, kp, hA, hF, hlt⟩ := h
  have hn2 : rs.length ≤ 1000000 := by rw [← rlen_of hA]; exact hn
  rcases hd : S.down with _ | _
  rotate_left
  · refine (do_down hA hd _ _ _ _ _ _ _).mono ?_
    rintro x w' ⟨rfl, rfl⟩
    have e1 : rename S s.data.toList t.data.toList = (15, S) := by unfold rename; rw [hd]; rfl
    rw [e1]
    exact says_same hA hF hlt (But.refl _ _) 15
  rcases hl : look s.data.toList rs with _ | e
  · have hlS : look s.data.toList S.files = none := by rw [hA.look, hl]; rfl
    refine (do_none hA hn2 hd 4 _ _ _ _ _ _ hl (by decide)).mono ?_
    rintro x w' ⟨rfl, hb⟩
    have e1 : rename S s.data.toList t.data.toList = (5, S) := by unfold rename; rw [hd, hlS]; rfl
    rw [e1]
    exact says_same hA hF hlt hb 5
  · have hlS : look s.data.toList S.files = some e.file := by rw [hA.look, hl]; rfl
    refine (do4_any hA hn2 hd hu s t a len cap hl).mono ?_
    intro x w' hx
    have e1 : rename S s.data.toList t.data.toList = effect S (fun T => { T with files := moved s.data.toList t.data.toList T.files }) := by unfold rename; rw [hd, hlS]; rfl
    rw [e1]
    exact says_did hx hF hlt
theorem rdo5 (h : RHas w rp S G) (hn : S.files.length ≤ 1000000) (m : Int) (s t : ByteArray) (a : Option Addr) (len cap : Nat) (hu : used S ≤ 1000000000) :
    Calls Try.prog 22 #[.pointer (some ⟨rp, 0, none⟩), .int .i64 5, .string s, .string t, .slice a len cap, .int .i64 m] w (DoSays w rp G (delete S s.data.toList)) := by
  obtain ⟨lv, rs, pl, lf, kp, hA, hF, hlt⟩ := h
  have hn2 : rs.length ≤ 1000000 := by rw [← rlen_of hA]; exact hn
  rcases hd : S.down with _ | _
  rotate_left
  · refine (do_down hA hd _ _ _ _ _ _ _).mono ?_
    rintro x w' ⟨rfl, rfl⟩
    have e1 : delete S s.data.toList = (15, S) := by unfold delete; rw [hd]; rfl
    rw [e1]
    exact says_same hA hF hlt (But.refl _ _) 15
  rcases hl : look s.data.toList rs with _ | e
  · have hlS : look s.data.toList S.files = none := by rw [hA.look, hl]; rfl
    refine (do_none hA hn2 hd 5 _ _ _ _ _ _ hl (by decide)).mono ?_
    rintro x w' ⟨rfl, hb⟩
    have e1 : delete S s.data.toList = (5, S) := by unfold delete; rw [hd, hlS]; rfl
    rw [e1]
    exact says_same hA hF hlt hb 5
  · have hlS : look s.data.toList S.files = some e.file := by rw [hA.look, hl]; rfl
    refine (do5_any hA hn2 hd hu s t a len cap hl).mono ?_
    intro x w' hx
    have e1 : delete S s.data.toList = effect S (fun T => { T with files := del s.data.toList T.files }) := by unfold delete; rw [hd, hlS]; rfl
    rw [e1]
    exact says_did hx hF hlt
end
end Go.Proofs.Ytiaaadeenbjciaa.Disk
