/- The document's Do: number 1. MADE BY gen-do.py -/
import Derived.Test.YtiaaadeenbjciaaRefDid
import Derived.BigQuiet
import Derived.Deep.QuietTactic
namespace Go.Proofs.Ytiaaadeenbjciaa.Disk
open Go.Proofs.Ytiaaadeenbjciaa Go.Proofs.Ytiaaadeenbjciaa.Mem
open Go.ChangeShapes Go.WideShapes Go.ChangeAt Go.RowKit
open Go.Proofs (encStr)
set_option linter.unusedVariables false
set_option linter.unusedSimpArgs false
section
variable {w w' : World} {rp : Nat} {S : St} {lv : Value} {rs : List (Nm × REnt)} {pl : Bool} {lf kp : Int} {G : Nat → Prop}
set_option maxRecDepth 100000 in
set_option maxHeartbeats 8000000 in
theorem do1_any (h : RAt w rp S lv rs pl lf kp) (hn : rs.length ≤ 1000000) (hd : S.down = false) (hu : used S ≤ 1000000000) {m : Int} (s t : ByteArray) (a : Option Addr) (len cap : Nat) (zs : List Int) (hr : Row w a len zs) (hnil : a = none → cap = 0) (hna : ∀ p, a = some p → 0 < len → p.block ≠ rp) {e : REnt} (hl : look s.data.toList rs = some e) (hul : used S + len ≤ 1000000000) (hf : ((used S + len : Nat) : Int) ≤ S.cap) :
    Calls Try.prog 22 #[.pointer (some ⟨rp, 0, none⟩), .int .i64 1, .string s, .string t, .slice a len cap, .int .i64 m] w (Did w rp lv rs (effect S fun T => { T with files := upd s.data.toList (fun f => ⟨f.bytes ++ zs, f.synced⟩) T.files })) := by
  obtain ⟨F, hF0⟩ : ∃ F : St → St, F = (fun T => { T with files := upd s.data.toList (fun f => ⟨f.bytes ++ zs, f.synced⟩) T.files }) := ⟨_, rfl⟩
  rw [← hF0]
  have HF0 := Lib.hid hF0
  clear hF0
  have t1 : decide (S.cap < (used S : Int) + (len : Int)) = false := by simp; omega
  have hlen : len ≤ 1000000000 := by omega
  have HR := Lib.hid hr
  have HNIL := Lib.hid hnil
  have HNA := Lib.hid hna
  have q1 : IntKind.i64.wrap ((used S : Int) + (len : Int)) = (used S : Int) + (len : Int) := IntWalk.i64_in _ (by omega)
  have hP0 := at_pos h.riseR hl
  obtain ⟨P, hP⟩ : ∃ P, P = pos s.data.toList rs := ⟨_, rfl⟩
  have HP := Lib.hid hP
  have HL := Lib.hid hl
  have hent := h.ent (List.mem_of_getElem? hP0)
  have hle : e.bytes.length ≤ 1000000000 := by
    have := total_le_of (f := fun e : REnt => e.bytes.length) (look_mem hl)
    rw [rused_eq h] at this
    exact Nat.le_trans this hu
  have HU := Lib.hid hu
  have HN := Lib.hid hn
  have c6 : w.cell? ⟨rp, 6, none⟩ = some (.bool S.down) := h.blk.cell 6
  rw [hd] at c6
  have hf_ := rfind_at h hn s
  rw [hl] at hf_
  rw [← hP] at hf_ hP0
  have HF := Lib.hid hf_
  have HH := Lib.hid h
  have HP0 := Lib.hid hP0
  have HENT := Lib.hid hent
  clear h hn hl hd hf hu hf_ hP hul hr hnil hP0 hent
  go_enter Try.func22, Try.ntmps22
  go_wp2_with fail
  refine HF.out.mono ?_
  rintro x w' ⟨rfl, nd, rfl⟩
  have hbW : But (fun _ => False) w (w.drewN nd) := (But.refl _ w).drewN nd
  have hA := HH.out.drewN nd
  generalize w.drewN nd = W at hA hbW ⊢
  clear HF
  obtain ⟨al, cl, rfl, hlc, hcm, hcells⟩ := hA.shape
  obtain ⟨g, rfl, -⟩ := hcells _ _ HP0.out
  have c1 := fun n => show (W.drewN n).cell? ⟨rp, 1, none⟩ = some (.slice (some ⟨g, 0, none⟩) rs.length cl) from (hA.drewN n).blk.cell 1
  have c0 := fun n => show (W.drewN n).cell? ⟨rp, 0, none⟩ = some (.int .i64 S.cap) from (hA.drewN n).blk.cell 0
  have hPl : P < rs.length := get_lt HP0.out
  have i0 : (0 : Int) ≤ (P : Int) := Int.natCast_nonneg _
  have i1 : (P : Int) < (rs.length : Int) := by omega
  have hnn : (rs.length : Int) ≤ 1000000 := by have := HN.out; omega
  have HA := Lib.hid hA
  have HBW := Lib.hid hbW
  have HCM := Lib.hid hcm
  have HLC := Lib.hid hlc
  clear hA hlc hcm hcells hbW
  go_wp2_with fail
  go_quiet ((go_at_call 34; exact quiet_eq (rused_at (HA.out.drewN _) HU.out HN.out)))
  have hbN := HBW.out.drewN nq
  have hA1 := HA.out.drewN nq
  go_wp2_with fail
  rcases hnow : now S with _ | k0
  · refine (reffect_yes hA1 hnow).mono ?_
    rintro x w2 ⟨rfl, lf2, hA2, hb2⟩
    have HDONE := Lib.hid (fun (w3 : World) (S3 : St) => did_done (w3 := w3) (S3 := S3) (lv := .slice (some ⟨g, 0, none⟩) rs.length cl) (rs := rs) F hnow hbN hb2)
    have hb02 := ((hbN.mono (fun _ _ e => e.elim) : But (fun k => k = rp) w _)).trans hb2 (fun _ _ h => h)
    clear hA1 hb2 hnow hbN c0 c1
    go_wp2_with fail
    obtain ⟨i0_, hi0, hz0, hz1, hz2⟩ := info_parts u8_info
    obtain ⟨ab, cb, hev, hrowb, hlb, hcb, hsh⟩ := rent_shape (hA2.ents _ (List.mem_of_getElem? HP0.out)) HENT.out.2
    have d1 : w2.cell? ⟨rp, 1, none⟩ = some (.slice (some ⟨g, 0, none⟩) rs.length cl) := hA2.blk.cell 1
    obtain ⟨k0, k1, k2, fz, hgW⟩ := hA2.cellsAt HP0.out
    have hrpW := hA2.blk.lt
    simp only at k1 k2 hev
    rw [hev] at k1
    have HBK := Lib.hid hA2.blk
    have HK1 := Lib.hid k1
    have HROWB := Lib.hid hrowb
    have HNB := Lib.hid (show ab = none → cb = 0 by rintro rfl; rcases hsh with ⟨_, h, _⟩ | ⟨b, h⟩; exact h; cases h)
    have b9 : (e.bytes.length : Int) ≤ 1000000000 := by omega
    have HFZ := Lib.hid fz
    have HA2 := Lib.hid hA2
    have hcb9 : cb ≤ 9223372036854775807 := by simpa [maxLen] using hcb
    have HBY := Lib.hid HENT.out.2
    have hx2 : But (fun _ => False) w w2 ∨ True := .inr trivial
    have HROWZ := Lib.hid (HR.out.but hb02 (fun p hp hn e => HNA.out p hp hn e))
    have HZL := Lib.hid HR.out.1
    clear hA2 hrowb hsh hev hlb hcb k0 k2 fz hx2
    refine Late.region_goes (fun w' => w'.cell? ⟨rp, 1, none⟩ = some (.slice (some ⟨g, 0, none⟩) rs.length cl) ∧ w'.cell? ⟨g, P * 3 + 1, none⟩ = some (.slice ab e.bytes.length cb)) (fun i => i == 19) (by kernel_rfl) ?_ (fun hH => ?_)
    · exact ⟨d1, k1⟩
    refine Late.Goes.take (i := 0) (v := ?_) (by simp only [List.getElem?_toArray, List.getElem?_cons_succ, List.getElem?_cons_zero]; rfl) (by kernel_rfl) (by kernel_rfl) (by kernel_rfl) (by kernel_rfl) (by exact fun _ _ _ h => h) (Or.inl ⟨by rfl, ?_⟩) hH ?_
    rotate_left
    · (intro wy hSw; (try dsimp only at hSw); obtain ⟨hs1, hs2⟩ := hSw; go_simp; try (with_reducible rfl))
    try simp only [Act.put, List.setIfInBounds_toArray, List.set_cons_zero, List.set_cons_succ]
    refine Late.Goes.take (i := 1) (v := ?_) (by simp only [List.getElem?_toArray, List.getElem?_cons_succ, List.getElem?_cons_zero]; rfl) (by kernel_rfl) (by kernel_rfl) (by kernel_rfl) (by kernel_rfl) (by exact fun _ _ _ h => h) (Or.inl ⟨by rfl, ?_⟩) hH ?_
    rotate_left
    · (intro wy hSw; (try dsimp only at hSw); obtain ⟨hs1, hs2⟩ := hSw; go_simp; try (with_reducible rfl))
    try simp only [Act.put, List.setIfInBounds_toArray, List.set_cons_zero, List.set_cons_succ]
    refine Late.Goes.take (i := 2) (v := ?_) (by simp only [List.getElem?_toArray, List.getElem?_cons_succ, List.getElem?_cons_zero]; rfl) (by kernel_rfl) (by kernel_rfl) (by kernel_rfl) (by kernel_rfl) (by exact fun _ _ _ h => h) (Or.inl ⟨by rfl, ?_⟩) hH ?_
    rotate_left
    · (intro wy hSw; (try dsimp only at hSw); obtain ⟨hs1, hs2⟩ := hSw; go_simp; try (with_reducible rfl))
    try simp only [Act.put, List.setIfInBounds_toArray, List.set_cons_zero, List.set_cons_succ]
    refine Late.Goes.take (i := 3) (v := ?_) (by simp only [List.getElem?_toArray, List.getElem?_cons_succ, List.getElem?_cons_zero]; rfl) (by kernel_rfl) (by kernel_rfl) (by kernel_rfl) (by kernel_rfl) (by exact fun _ _ _ h => h) (Or.inl ⟨by rfl, ?_⟩) hH ?_
    rotate_left
    · (intro wy hSw; (try dsimp only at hSw); obtain ⟨hs1, hs2⟩ := hSw; go_simp; try (with_reducible rfl))
    try simp only [Act.put, List.setIfInBounds_toArray, List.set_cons_zero, List.set_cons_succ]
    refine Late.Goes.take (i := 4) (v := ?_) (by simp only [List.getElem?_toArray, List.getElem?_cons_succ, List.getElem?_cons_zero]; rfl) (by kernel_rfl) (by kernel_rfl) (by kernel_rfl) (by kernel_rfl) (by exact fun _ _ _ h => h) (Or.inl ⟨by rfl, ?_⟩) hH ?_
    rotate_left
    · (intro wy hSw; (try dsimp only at hSw); obtain ⟨hs1, hs2⟩ := hSw; go_simp; try (with_reducible rfl))
    try simp only [Act.put, List.setIfInBounds_toArray, List.set_cons_zero, List.set_cons_succ]
    refine Late.Goes.take (i := 6) (v := ?_) (by simp only [List.getElem?_toArray, List.getElem?_cons_succ, List.getElem?_cons_zero]; rfl) (by kernel_rfl) (by kernel_rfl) (by kernel_rfl) (by kernel_rfl) (by exact fun _ _ _ h => h) (Or.inl ⟨by rfl, ?_⟩) hH ?_
    rotate_left
    · (intro wy hSw; (try dsimp only at hSw); obtain ⟨hs1, hs2⟩ := hSw; go_simp; try (with_reducible rfl))
    try simp only [Act.put, List.setIfInBounds_toArray, List.set_cons_zero, List.set_cons_succ]
    refine Late.Goes.take (i := 7) (v := ?_) (by simp only [List.getElem?_toArray, List.getElem?_cons_succ, List.getElem?_cons_zero]; rfl) (by kernel_rfl) (by kernel_rfl) (by kernel_rfl) (by kernel_rfl) (by exact fun _ _ _ h => h) (Or.inl ⟨by rfl, ?_⟩) hH ?_
    rotate_left
    · (intro wy hSw; (try dsimp only at hSw); obtain ⟨hs1, hs2⟩ := hSw; go_simp; try (with_reducible rfl))
    try simp only [Act.put, List.setIfInBounds_toArray, List.set_cons_zero, List.set_cons_succ]
    refine Late.Goes.take (i := 8) (v := ?_) (by simp only [List.getElem?_toArray, List.getElem?_cons_succ, List.getElem?_cons_zero]; rfl) (by kernel_rfl) (by kernel_rfl) (by kernel_rfl) (by kernel_rfl) (by exact fun _ _ _ h => h) (Or.inl ⟨by rfl, ?_⟩) hH ?_
    rotate_left
    · (intro wy hSw; (try dsimp only at hSw); obtain ⟨hs1, hs2⟩ := hSw; go_simp; try (with_reducible rfl))
    try simp only [Act.put, List.setIfInBounds_toArray, List.set_cons_zero, List.set_cons_succ]
    refine Late.Goes.take (i := 9) (v := ?_) (by simp only [List.getElem?_toArray, List.getElem?_cons_succ, List.getElem?_cons_zero]; rfl) (by kernel_rfl) (by kernel_rfl) (by kernel_rfl) (by kernel_rfl) (by exact fun _ _ _ h => h) (Or.inl ⟨by rfl, ?_⟩) hH ?_
    rotate_left
    · (intro wy hSw; (try dsimp only at hSw); obtain ⟨hs1, hs2⟩ := hSw; go_simp; try (with_reducible rfl))
    try simp only [Act.put, List.setIfInBounds_toArray, List.set_cons_zero, List.set_cons_succ]
    refine Late.Goes.take (i := 10) (v := ?_) (by simp only [List.getElem?_toArray, List.getElem?_cons_succ, List.getElem?_cons_zero]; rfl) (by kernel_rfl) (by kernel_rfl) (by kernel_rfl) (by kernel_rfl) (by exact fun _ _ _ h => h) (Or.inl ⟨by rfl, ?_⟩) hH ?_
    rotate_left
    · (intro wy hSw; (try dsimp only at hSw); obtain ⟨hs1, hs2⟩ := hSw; go_simp; try (with_reducible rfl))
    try simp only [Act.put, List.setIfInBounds_toArray, List.set_cons_zero, List.set_cons_succ]
    refine Late.Goes.take (i := 11) (v := ?_) (by simp only [List.getElem?_toArray, List.getElem?_cons_succ, List.getElem?_cons_zero]; rfl) (by kernel_rfl) (by kernel_rfl) (by kernel_rfl) (by kernel_rfl) (by exact fun _ _ _ h => h) (Or.inl ⟨by rfl, ?_⟩) hH ?_
    rotate_left
    · (intro wy hSw; (try dsimp only at hSw); obtain ⟨hs1, hs2⟩ := hSw; go_simp; try (with_reducible rfl))
    try simp only [Act.put, List.setIfInBounds_toArray, List.set_cons_zero, List.set_cons_succ]
    refine Late.Goes.take (i := 12) (v := ?_) (by simp only [List.getElem?_toArray, List.getElem?_cons_succ, List.getElem?_cons_zero]; rfl) (by kernel_rfl) (by kernel_rfl) (by kernel_rfl) (by kernel_rfl) (by exact fun _ _ _ h => h) (Or.inl ⟨by rfl, ?_⟩) hH ?_
    rotate_left
    · (intro wy hSw; (try dsimp only at hSw); obtain ⟨hs1, hs2⟩ := hSw; go_simp; try (with_reducible rfl))
    try simp only [Act.put, List.setIfInBounds_toArray, List.set_cons_zero, List.set_cons_succ]
    refine Late.Goes.take (i := 13) (v := ?_) (by simp only [List.getElem?_toArray, List.getElem?_cons_succ, List.getElem?_cons_zero]; rfl) (by kernel_rfl) (by kernel_rfl) (by kernel_rfl) (by kernel_rfl) (by exact fun _ _ _ h => h) (Or.inl ⟨by rfl, ?_⟩) hH ?_
    rotate_left
    · (intro wy hSw; (try dsimp only at hSw); obtain ⟨hs1, hs2⟩ := hSw; go_simp; try (with_reducible rfl))
    try simp only [Act.put, List.setIfInBounds_toArray, List.set_cons_zero, List.set_cons_succ]
    refine Late.Goes.take (i := 15) (v := ?_) (by simp only [List.getElem?_toArray, List.getElem?_cons_succ, List.getElem?_cons_zero]; rfl) (by kernel_rfl) (by kernel_rfl) (by kernel_rfl) (by kernel_rfl) (by exact fun _ _ _ h => h) (Or.inl ⟨by rfl, ?_⟩) hH ?_
    rotate_left
    · (intro wy hSw; (try dsimp only at hSw); obtain ⟨hs1, hs2⟩ := hSw; go_simp; try (with_reducible rfl))
    try simp only [Act.put, List.setIfInBounds_toArray, List.set_cons_zero, List.set_cons_succ]
    clear d1 k1
    refine Late.Goes.one (i := 5) (by kernel_rfl) (by simp only [List.getElem?_toArray, List.getElem?_cons_succ, List.getElem?_cons_zero]; rfl) (fun K hK => ?_)
    clear hH
    go_simp
    refine hK.out _ _ ?_ (fun hH => ?_)
    · exact fun _ => ⟨(World.cell?_alloc_lt _ _ _ hrpW).trans (HBK.out.cell 1), (World.cell?_alloc_lt _ _ _ hgW).trans HK1.out⟩
    clear hK K
    have hH := hH rfl
    try simp only [Act.put, List.setIfInBounds_toArray, List.set_cons_zero, List.set_cons_succ]
    refine Late.Goes.one (i := 14) (by kernel_rfl) (by simp only [List.getElem?_toArray, List.getElem?_cons_succ, List.getElem?_cons_zero]; rfl) (fun K hK => ?_)
    clear hH
    refine step_append_onto rfl (.tmp 104) (.tmp 112) _ rfl w2.heap.size 5 i0_ _ 1 1 Try.underlying30 hi0 hz0 hz1 hz2 rfl (by omega) (.slice (some ⟨w2.drew.heap.size, 0, none⟩) 0 0) 0 [] rfl (World.ownsRow_made (base := w2.heap.size) (e := 5) (size := 1) w2.drew #[] 0 (Nat.le_refl _) (by simp) (by simp)) (.slice ab e.bytes.length cb) e.bytes.length (cellsOf e.bytes) rfl ((HROWB.out.below ((Below.refl w2.heap.size w2).drew.alloc (Nat.le_refl _) _)).sees HNB.out) (cellsOf_one _) (by simp only [maxLen]; omega) (by omega) (by simp) ?_
    intro v3 w3 ho3 hon3
    have hb3 : But (fun _ => False) w2 w3 := ((But.refl _ w2).drew.alloc _).trans hon3.but (fun i hi e => by have e2 : i = w2.drew.heap.size := Option.some.inj (show some i = some w2.drew.heap.size from e); have e3 : w2.drew.heap.size = w2.heap.size := rfl; omega)
    rw [List.nil_append, Nat.zero_add] at ho3
    have HO3 := Lib.hid ho3
    have HB3 := Lib.hid hb3
    clear ho3 hb3 hon3
    refine hK.out _ _ ?_ (fun hH => ?_)
    · exact fun _ => ⟨(HBK.out.but HB3.out (fun e => e)).cell 1, (HB3.out.cell (p := ⟨g, P * 3 + 1, none⟩) hgW (fun e => e)).trans HK1.out⟩
    clear hK K
    have hH := hH rfl
    try simp only [Act.put, List.setIfInBounds_toArray, List.set_cons_zero, List.set_cons_succ]
    refine Late.Goes.one (i := 16) (by kernel_rfl) (by simp only [List.getElem?_toArray, List.getElem?_cons_succ, List.getElem?_cons_zero]; rfl) (fun K hK => ?_)
    clear hH
    refine step_append_onto rfl (.tmp 113) (.tmp 114) _ rfl w2.heap.size 5 i0_ _ 1 1 Try.underlying30 hi0 hz0 hz1 hz2 rfl (by omega) v3 e.bytes.length (cellsOf e.bytes) rfl HO3.out (.slice a len cap) len (cellsOf zs) rfl ((HROWZ.out.below HB3.out.new).sees HNIL.out) (cellsOf_one _) (by simp only [maxLen]; omega) (by omega) HB3.out.size ?_
    intro v5 w5 ho5 hon5
    have hb5 : But (fun _ => False) w2 w5 := HB3.out.trans hon5.but (fun i hi e => by have := (HO3.out.lt i e.symm).1; omega)
    obtain ⟨a5, n5, q5, rfl⟩ := own_slice ho5
    rw [← cellsOf_append] at ho5
    have ho5' : w5.ownsRow w2.heap.size 5 1 (.slice a5 n5 q5) (e.bytes ++ zs).length (cellsOf (e.bytes ++ zs)) := by rw [List.length_append, HZL.out]; exact ho5
    have HT := Lib.hid (HA2.out.stB HP0.out hb5 ho5' ⟨by show e.synced ≤ _; rw [List.length_append]; have := HENT.out.1; omega, bytes_append HBY.out (HROWZ.out.2.1)⟩)
    have d5 := (HBK.out.but hb5 (fun e => e)).cell 1
    have k5 := (hb5.cell (p := ⟨g, P * 3 + 1, none⟩) hgW (fun e => e)).trans HK1.out
    have f5 := (hb5.frozen (p := ⟨g, P * 3 + 1, none⟩) hgW (fun e => e)).trans (HFZ.out _)
    clear ho5 ho5' hb5 hon5
    refine hK.out _ _ ?_ (fun hH => ?_)
    · exact fun _ => ⟨d5, k5⟩
    clear hK K
    have hH := hH rfl
    try simp only [Act.put, List.setIfInBounds_toArray, List.set_cons_zero, List.set_cons_succ]
    refine Late.Goes.one (i := 17) (by kernel_rfl) (by simp only [List.getElem?_toArray, List.getElem?_cons_succ, List.getElem?_cons_zero]; rfl) (fun K hK => ?_)
    clear hH
    go_simp
    refine hK.out _ _ ?_ (fun hH => ?_)
    · exact fun _ => ⟨d5, k5⟩
    clear hK K
    have hH := hH rfl
    try simp only [Act.put, List.setIfInBounds_toArray, List.set_cons_zero, List.set_cons_succ]
    refine Late.Goes.one (i := 18) (by kernel_rfl) (by simp only [List.getElem?_toArray, List.getElem?_cons_succ, List.getElem?_cons_zero]; rfl) (fun K hK => ?_)
    clear hH
    go_simp
    refine hK.out _ _ ?_ (fun hH => ?_)
    · exact fun _ => ⟨d5, k5⟩
    clear hK K
    have hH := hH rfl
    try simp only [Act.put, List.setIfInBounds_toArray, List.set_cons_zero, List.set_cons_succ]
    refine Late.Goes.one (i := 19) (by kernel_rfl) (by simp only [List.getElem?_toArray, List.getElem?_cons_succ, List.getElem?_cons_zero]; rfl) (fun K hK => ?_)
    clear hH
    go_simp
    refine hK.out _ _ ?_ (fun _ => ?_)
    · exact fun e => by cases e
    clear hK K
    try simp only [Act.put, List.setIfInBounds_toArray, List.set_cons_zero, List.set_cons_succ]
    refine Late.Goes.done (by kernel_rfl) ?_ _
    go_wp2_with fail
    go_ret
    have HUP := Lib.hid (upd_here HA2.out HL.out (fun f => ⟨f.bytes ++ zs, f.synced⟩))
    exact HDONE.out _ _ HT.out (by rw [HF0.out]; show _ = ({ stepS S with files := upd _ _ (stepS S).files } : St); rw [HUP.out, ← HP.out]; rfl)
  · obtain rfl := now_keep hA1 hnow
    refine (reffect_no hA1 hnow HU.out HN.out).mono ?_
    rintro x w2 ⟨rfl, rs2, hA2, hb2, hf2⟩
    have HCR := Lib.hid (did_crash F hnow hbN hA2 hb2 hf2)
    clear hA1 hA2 hb2 hf2 hnow hbN c0 c1
    go_wp2_with fail
    go_ret
    exact HCR.out
end
end Go.Proofs.Ytiaaadeenbjciaa.Disk
