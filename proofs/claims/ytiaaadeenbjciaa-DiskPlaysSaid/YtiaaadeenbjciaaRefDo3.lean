/- The document's Do: number 3. MADE BY gen-do.py -/
import Derived.Test.YtiaaadeenbjciaaRefDid
import Derived.BigQuiet
import Derived.Deep.QuietTactic
namespace Go.Proofs.Ytiaaadeenbjciaa.Disk
open Go.Proofs.Ytiaaadeenbjciaa Go.Proofs.Ytiaaadeenbjciaa.Mem
open Go.ChangeShapes Go.WideShapes Go.ChangeAt Go.RowKit
open Go.Proofs (encStr)
set_option linter.unusedVariables false
set_option linter.unusedSimpArgs false
section
variable {w w' : World} {rp : Nat} {S : St} {lv : Value} {rs : List (Nm × REnt)} {pl : Bool} {lf kp : Int} {G : Nat → Prop}
set_option maxRecDepth 100000 in
set_option maxHeartbeats 8000000 in
theorem do3_any (h : RAt w rp S lv rs pl lf kp) (hn : rs.length ≤ 1000000) (hd : S.down = false) (hu : used S ≤ 1000000000) (q : Nat) (s t : ByteArray) (a : Option Addr) (len cap : Nat) {e : REnt} (hl : look s.data.toList rs = some e) (hq : q ≤ e.bytes.length) :
    Calls Try.prog 22 #[.pointer (some ⟨rp, 0, none⟩), .int .i64 3, .string s, .string t, .slice a len cap, .int .i64 (q : Int)] w (Did w rp lv rs (effect S fun T => { T with files := upd s.data.toList (fun f => ⟨f.bytes.take q, min f.synced q⟩) T.files })) := by
  obtain ⟨F, hF0⟩ : ∃ F : St → St, F = (fun T => { T with files := upd s.data.toList (fun f => ⟨f.bytes.take q, min f.synced q⟩) T.files }) := ⟨_, rfl⟩
  rw [← hF0]
  have HF0 := Lib.hid hF0
  clear hF0
  have hP0 := at_pos h.riseR hl
  obtain ⟨P, hP⟩ : ∃ P, P = pos s.data.toList rs := ⟨_, rfl⟩
  have HP := Lib.hid hP
  have HL := Lib.hid hl
  have hent := h.ent (List.mem_of_getElem? hP0)
  have hle : e.bytes.length ≤ 1000000000 := by
    have := total_le_of (f := fun e : REnt => e.bytes.length) (look_mem hl)
    rw [rused_eq h] at this
    exact Nat.le_trans this hu
  have t2 : decide ((q : Int) < 0) = false := by simp
  have t3 : decide ((e.bytes.length : Int) < (q : Int)) = false := by simp; omega
  have HU := Lib.hid hu
  have HN := Lib.hid hn
  have c6 : w.cell? ⟨rp, 6, none⟩ = some (.bool S.down) := h.blk.cell 6
  rw [hd] at c6
  have hf_ := rfind_at h hn s
  rw [hl] at hf_
  rw [← hP] at hf_ hP0
  have HF := Lib.hid hf_
  have HH := Lib.hid h
  have HP0 := Lib.hid hP0
  have HENT := Lib.hid hent
  clear h hn hl hd hu hf_ hP hP0 hent
  go_enter Try.func22, Try.ntmps22
  go_wp2_with fail
  refine HF.out.mono ?_
  rintro x w' ⟨rfl, nd, rfl⟩
  have hbW : But (fun _ => False) w (w.drewN nd) := (But.refl _ w).drewN nd
  have hA := HH.out.drewN nd
  generalize w.drewN nd = W at hA hbW ⊢
  clear HF
  obtain ⟨al, cl, rfl, hlc, hcm, hcells⟩ := hA.shape
  obtain ⟨g, rfl, -⟩ := hcells _ _ HP0.out
  have c1 := fun n => show (W.drewN n).cell? ⟨rp, 1, none⟩ = some (.slice (some ⟨g, 0, none⟩) rs.length cl) from (hA.drewN n).blk.cell 1
  have c0 := fun n => show (W.drewN n).cell? ⟨rp, 0, none⟩ = some (.int .i64 S.cap) from (hA.drewN n).blk.cell 0
  have hPl : P < rs.length := get_lt HP0.out
  have i0 : (0 : Int) ≤ (P : Int) := Int.natCast_nonneg _
  have i1 : (P : Int) < (rs.length : Int) := by omega
  have hnn : (rs.length : Int) ≤ 1000000 := by have := HN.out; omega
  obtain ⟨ab, cb, hev, -, -, hcb, -⟩ := rent_shape (hA.ents _ (List.mem_of_getElem? HP0.out)) HENT.out.2
  have k1 := fun n => show (W.drewN n).cell? ⟨g, P * 3 + 1, none⟩ = some (.slice ab e.bytes.length cb) from hev ▸ ((hA.drewN n).cellsAt HP0.out).2.1
  have HEV := Lib.hid hev
  clear hev
  have HA := Lib.hid hA
  have HBW := Lib.hid hbW
  have HCM := Lib.hid hcm
  have HLC := Lib.hid hlc
  clear hA hlc hcm hcells hbW
  go_wp2_with fail
  go_quiet (fail)
  have hbN := HBW.out.drewN nq
  have hA1 := HA.out.drewN nq
  go_wp2_with fail
  rcases hnow : now S with _ | k0
  · refine (reffect_yes hA1 hnow).mono ?_
    rintro x w2 ⟨rfl, lf2, hA2, hb2⟩
    have HDONE := Lib.hid (fun (w3 : World) (S3 : St) => did_done (w3 := w3) (S3 := S3) (lv := .slice (some ⟨g, 0, none⟩) rs.length cl) (rs := rs) F hnow hbN hb2)
    have hb02 := ((hbN.mono (fun _ _ e => e.elim) : But (fun k => k = rp) w _)).trans hb2 (fun _ _ h => h)
    clear hA1 hb2 hnow hbN c0 c1 k1
    go_wp2_with fail
    obtain ⟨i0_, hi0, hz0, hz1, hz2⟩ := info_parts u8_info
    obtain ⟨ab, cb, hev, hrowb, hlb, hcb, hsh⟩ := rent_shape (hA2.ents _ (List.mem_of_getElem? HP0.out)) HENT.out.2
    have d1 : w2.cell? ⟨rp, 1, none⟩ = some (.slice (some ⟨g, 0, none⟩) rs.length cl) := hA2.blk.cell 1
    obtain ⟨k0, k1, k2, fz, hgW⟩ := hA2.cellsAt HP0.out
    have hrpW := hA2.blk.lt
    simp only at k1 k2 hev
    rw [hev] at k1
    have HBK := Lib.hid hA2.blk
    have HK1 := Lib.hid k1
    have HROWB := Lib.hid hrowb
    have HNB := Lib.hid (show ab = none → cb = 0 by rintro rfl; rcases hsh with ⟨_, h, _⟩ | ⟨b, h⟩; exact h; cases h)
    have b9 : (e.bytes.length : Int) ≤ 1000000000 := by omega
    have HFZ := Lib.hid fz
    have HA2 := Lib.hid hA2
    have hcb9 : cb ≤ 9223372036854775807 := by simpa [maxLen] using hcb
    have HTAKE := Lib.hid (bytes_take HENT.out.2 q)
    have hqi : (q : Int) ≤ (e.bytes.length : Int) := by omega
    have hlb9 : e.bytes.length ≤ cb := hlb
    have hqc : (q : Int) ≤ (cb : Int) := by omega
    have k2' := k2
    have HK2 := Lib.hid k2
    clear hA2 hrowb hsh hev hcb k0 k2 fz k2'
    refine Late.region_goes (fun w' => w'.cell? ⟨rp, 1, none⟩ = some (.slice (some ⟨g, 0, none⟩) rs.length cl) ∧ w'.cell? ⟨g, P * 3 + 1, none⟩ = some (.slice ab e.bytes.length cb)) (fun i => i == 19) (by kernel_rfl) ?_ (fun hH => ?_)
    · exact ⟨d1, k1⟩
    refine Late.Goes.take (i := 0) (v := ?_) (by simp only [List.getElem?_toArray, List.getElem?_cons_succ, List.getElem?_cons_zero]; rfl) (by kernel_rfl) (by kernel_rfl) (by kernel_rfl) (by kernel_rfl) (by exact fun _ _ _ h => h) (Or.inl ⟨by rfl, ?_⟩) hH ?_
    rotate_left
    · (intro wy hSw; (try dsimp only at hSw); obtain ⟨hs1, hs2⟩ := hSw; go_simp; try (with_reducible rfl))
    try simp only [Act.put, List.setIfInBounds_toArray, List.set_cons_zero, List.set_cons_succ]
    refine Late.Goes.take (i := 1) (v := ?_) (by simp only [List.getElem?_toArray, List.getElem?_cons_succ, List.getElem?_cons_zero]; rfl) (by kernel_rfl) (by kernel_rfl) (by kernel_rfl) (by kernel_rfl) (by exact fun _ _ _ h => h) (Or.inl ⟨by rfl, ?_⟩) hH ?_
    rotate_left
    · (intro wy hSw; (try dsimp only at hSw); obtain ⟨hs1, hs2⟩ := hSw; go_simp; try (with_reducible rfl))
    try simp only [Act.put, List.setIfInBounds_toArray, List.set_cons_zero, List.set_cons_succ]
    refine Late.Goes.take (i := 2) (v := ?_) (by simp only [List.getElem?_toArray, List.getElem?_cons_succ, List.getElem?_cons_zero]; rfl) (by kernel_rfl) (by kernel_rfl) (by kernel_rfl) (by kernel_rfl) (by exact fun _ _ _ h => h) (Or.inl ⟨by rfl, ?_⟩) hH ?_
    rotate_left
    · (intro wy hSw; (try dsimp only at hSw); obtain ⟨hs1, hs2⟩ := hSw; go_simp; try (with_reducible rfl))
    try simp only [Act.put, List.setIfInBounds_toArray, List.set_cons_zero, List.set_cons_succ]
    refine Late.Goes.take (i := 3) (v := ?_) (by simp only [List.getElem?_toArray, List.getElem?_cons_succ, List.getElem?_cons_zero]; rfl) (by kernel_rfl) (by kernel_rfl) (by kernel_rfl) (by kernel_rfl) (by exact fun _ _ _ h => h) (Or.inl ⟨by rfl, ?_⟩) hH ?_
    rotate_left
    · (intro wy hSw; (try dsimp only at hSw); obtain ⟨hs1, hs2⟩ := hSw; go_simp; try (with_reducible rfl))
    try simp only [Act.put, List.setIfInBounds_toArray, List.set_cons_zero, List.set_cons_succ]
    refine Late.Goes.take (i := 4) (v := ?_) (by simp only [List.getElem?_toArray, List.getElem?_cons_succ, List.getElem?_cons_zero]; rfl) (by kernel_rfl) (by kernel_rfl) (by kernel_rfl) (by kernel_rfl) (by exact fun _ _ _ h => h) (Or.inl ⟨by rfl, ?_⟩) hH ?_
    rotate_left
    · (intro wy hSw; (try dsimp only at hSw); obtain ⟨hs1, hs2⟩ := hSw; go_simp; try (with_reducible rfl))
    try simp only [Act.put, List.setIfInBounds_toArray, List.set_cons_zero, List.set_cons_succ]
    refine Late.Goes.take (i := 6) (v := ?_) (by simp only [List.getElem?_toArray, List.getElem?_cons_succ, List.getElem?_cons_zero]; rfl) (by kernel_rfl) (by kernel_rfl) (by kernel_rfl) (by kernel_rfl) (by exact fun _ _ _ h => h) (Or.inl ⟨by rfl, ?_⟩) hH ?_
    rotate_left
    · (intro wy hSw; (try dsimp only at hSw); obtain ⟨hs1, hs2⟩ := hSw; go_simp; try (with_reducible rfl))
    try simp only [Act.put, List.setIfInBounds_toArray, List.set_cons_zero, List.set_cons_succ]
    refine Late.Goes.take (i := 7) (v := ?_) (by simp only [List.getElem?_toArray, List.getElem?_cons_succ, List.getElem?_cons_zero]; rfl) (by kernel_rfl) (by kernel_rfl) (by kernel_rfl) (by kernel_rfl) (by exact fun _ _ _ h => h) (Or.inl ⟨by rfl, ?_⟩) hH ?_
    rotate_left
    · (intro wy hSw; (try dsimp only at hSw); obtain ⟨hs1, hs2⟩ := hSw; go_simp; try (with_reducible rfl))
    try simp only [Act.put, List.setIfInBounds_toArray, List.set_cons_zero, List.set_cons_succ]
    refine Late.Goes.take (i := 8) (v := ?_) (by simp only [List.getElem?_toArray, List.getElem?_cons_succ, List.getElem?_cons_zero]; rfl) (by kernel_rfl) (by kernel_rfl) (by kernel_rfl) (by kernel_rfl) (by exact fun _ _ _ h => h) (Or.inl ⟨by rfl, ?_⟩) hH ?_
    rotate_left
    · (intro wy hSw; (try dsimp only at hSw); obtain ⟨hs1, hs2⟩ := hSw; go_simp; try (with_reducible rfl))
    try simp only [Act.put, List.setIfInBounds_toArray, List.set_cons_zero, List.set_cons_succ]
    refine Late.Goes.take (i := 9) (v := ?_) (by simp only [List.getElem?_toArray, List.getElem?_cons_succ, List.getElem?_cons_zero]; rfl) (by kernel_rfl) (by kernel_rfl) (by kernel_rfl) (by kernel_rfl) (by exact fun _ _ _ h => h) (Or.inl ⟨by rfl, ?_⟩) hH ?_
    rotate_left
    · (intro wy hSw; (try dsimp only at hSw); obtain ⟨hs1, hs2⟩ := hSw; go_simp; try (with_reducible rfl))
    try simp only [Act.put, List.setIfInBounds_toArray, List.set_cons_zero, List.set_cons_succ]
    refine Late.Goes.take (i := 10) (v := ?_) (by simp only [List.getElem?_toArray, List.getElem?_cons_succ, List.getElem?_cons_zero]; rfl) (by kernel_rfl) (by kernel_rfl) (by kernel_rfl) (by kernel_rfl) (by exact fun _ _ _ h => h) (Or.inl ⟨by rfl, ?_⟩) hH ?_
    rotate_left
    · (intro wy hSw; (try dsimp only at hSw); obtain ⟨hs1, hs2⟩ := hSw; go_simp; try (with_reducible rfl))
    try simp only [Act.put, List.setIfInBounds_toArray, List.set_cons_zero, List.set_cons_succ]
    refine Late.Goes.take (i := 11) (v := ?_) (by simp only [List.getElem?_toArray, List.getElem?_cons_succ, List.getElem?_cons_zero]; rfl) (by kernel_rfl) (by kernel_rfl) (by kernel_rfl) (by kernel_rfl) (by exact fun _ _ _ h => h) (Or.inl ⟨by rfl, ?_⟩) hH ?_
    rotate_left
    · (intro wy hSw; (try dsimp only at hSw); obtain ⟨hs1, hs2⟩ := hSw; go_simp; try (with_reducible rfl))
    try simp only [Act.put, List.setIfInBounds_toArray, List.set_cons_zero, List.set_cons_succ]
    refine Late.Goes.take (i := 12) (v := ?_) (by simp only [List.getElem?_toArray, List.getElem?_cons_succ, List.getElem?_cons_zero]; rfl) (by kernel_rfl) (by kernel_rfl) (by kernel_rfl) (by kernel_rfl) (by exact fun _ _ _ h => h) (Or.inl ⟨by rfl, ?_⟩) hH ?_
    rotate_left
    · (intro wy hSw; (try dsimp only at hSw); obtain ⟨hs1, hs2⟩ := hSw; go_simp; try (with_reducible rfl))
    try simp only [Act.put, List.setIfInBounds_toArray, List.set_cons_zero, List.set_cons_succ]
    refine Late.Goes.take (i := 13) (v := ?_) (by simp only [List.getElem?_toArray, List.getElem?_cons_succ, List.getElem?_cons_zero]; rfl) (by kernel_rfl) (by kernel_rfl) (by kernel_rfl) (by kernel_rfl) (by exact fun _ _ _ h => h) (Or.inl ⟨by rfl, ?_⟩) hH ?_
    rotate_left
    · (intro wy hSw; (try dsimp only at hSw); obtain ⟨hs1, hs2⟩ := hSw; go_simp; try (with_reducible rfl))
    try simp only [Act.put, List.setIfInBounds_toArray, List.set_cons_zero, List.set_cons_succ]
    refine Late.Goes.take (i := 14) (v := ?_) (by simp only [List.getElem?_toArray, List.getElem?_cons_succ, List.getElem?_cons_zero]; rfl) (by kernel_rfl) (by kernel_rfl) (by kernel_rfl) (by kernel_rfl) (by exact fun _ _ _ h => h) (Or.inl ⟨by rfl, ?_⟩) hH ?_
    rotate_left
    · (intro wy hSw; (try dsimp only at hSw); obtain ⟨hs1, hs2⟩ := hSw; go_simp; try (with_reducible rfl))
    try simp only [Act.put, List.setIfInBounds_toArray, List.set_cons_zero, List.set_cons_succ]
    refine Late.Goes.take (i := 15) (v := ?_) (by simp only [List.getElem?_toArray, List.getElem?_cons_succ, List.getElem?_cons_zero]; rfl) (by kernel_rfl) (by kernel_rfl) (by kernel_rfl) (by kernel_rfl) (by exact fun _ _ _ h => h) (Or.inl ⟨by rfl, ?_⟩) hH ?_
    rotate_left
    · (intro wy hSw; (try dsimp only at hSw); obtain ⟨hs1, hs2⟩ := hSw; go_simp; try (with_reducible rfl))
    try simp only [Act.put, List.setIfInBounds_toArray, List.set_cons_zero, List.set_cons_succ]
    clear d1 k1
    refine Late.Goes.one (i := 5) (by kernel_rfl) (by simp only [List.getElem?_toArray, List.getElem?_cons_succ, List.getElem?_cons_zero]; rfl) (fun K hK => ?_)
    clear hH
    go_simp
    refine hK.out _ _ ?_ (fun hH => ?_)
    · exact fun _ => ⟨(World.cell?_alloc_lt _ _ _ hrpW).trans (HBK.out.cell 1), (World.cell?_alloc_lt _ _ _ hgW).trans HK1.out⟩
    clear hK K
    have hH := hH rfl
    try simp only [Act.put, List.setIfInBounds_toArray, List.set_cons_zero, List.set_cons_succ]
    refine Late.Goes.one (i := 16) (by kernel_rfl) (by simp only [List.getElem?_toArray, List.getElem?_cons_succ, List.getElem?_cons_zero]; rfl) (fun K hK => ?_)
    clear hH
    refine step_append_onto rfl (.tmp 143) (.tmp 153) _ rfl w2.heap.size 5 i0_ _ 1 1 Try.underlying30 hi0 hz0 hz1 hz2 rfl (by omega) (.slice (some ⟨w2.drew.heap.size, 0, none⟩) 0 0) 0 [] rfl (World.ownsRow_made (base := w2.heap.size) (e := 5) (size := 1) w2.drew #[] 0 (Nat.le_refl _) (by simp) (by simp)) (.slice ab q cb) q (cellsOf (e.bytes.take q)) rfl (((row_taken HROWB.out hq).below ((Below.refl w2.heap.size w2).drew.alloc (Nat.le_refl _) _)).sees HNB.out) (cellsOf_one _) (by simp only [maxLen]; omega) (by omega) (by simp) ?_
    intro v3 w3 ho3 hon3
    have hb3 : But (fun _ => False) w2 w3 := ((But.refl _ w2).drew.alloc _).trans hon3.but (fun i hi e => by have e2 : i = w2.drew.heap.size := Option.some.inj (show some i = some w2.drew.heap.size from e); have e3 : w2.drew.heap.size = w2.heap.size := rfl; omega)
    rw [List.nil_append, Nat.zero_add] at ho3
    have HO3 := Lib.hid ho3
    have HB3 := Lib.hid hb3
    clear ho3 hb3 hon3
    obtain ⟨a5, n5, q5, rfl⟩ := own_slice HO3.out
    have d5 := (HBK.out.but HB3.out (fun e => e)).cell 1
    have k5 := (HB3.out.cell (p := ⟨g, P * 3 + 1, none⟩) hgW (fun e => e)).trans HK1.out
    have m5 := (HB3.out.cell (p := ⟨g, P * 3 + 2, none⟩) hgW (fun e => e)).trans HK2.out
    have f5 := (HB3.out.frozen (p := ⟨g, P * 3 + 1, none⟩) hgW (fun e => e)).trans (HFZ.out _)
    have f6 := (HB3.out.frozen (p := ⟨g, P * 3 + 2, none⟩) hgW (fun e => e)).trans (HFZ.out _)
    refine hK.out _ _ ?_ (fun hH => ?_)
    · exact fun _ => ⟨d5, k5⟩
    clear hK K
    have hH := hH rfl
    try simp only [Act.put, List.setIfInBounds_toArray, List.set_cons_zero, List.set_cons_succ]
    refine Late.Goes.one (i := 17) (by kernel_rfl) (by simp only [List.getElem?_toArray, List.getElem?_cons_succ, List.getElem?_cons_zero]; rfl) (fun K hK => ?_)
    clear hH
    go_simp
    refine hK.out _ _ ?_ (fun hH => ?_)
    · exact fun _ => ⟨d5, k5⟩
    clear hK K
    have hH := hH rfl
    try simp only [Act.put, List.setIfInBounds_toArray, List.set_cons_zero, List.set_cons_succ]
    refine Late.Goes.one (i := 18) (by kernel_rfl) (by simp only [List.getElem?_toArray, List.getElem?_cons_succ, List.getElem?_cons_zero]; rfl) (fun K hK => ?_)
    clear hH
    go_simp
    refine hK.out _ _ ?_ (fun hH => ?_)
    · exact fun _ => ⟨d5, k5⟩
    clear hK K
    have hH := hH rfl
    try simp only [Act.put, List.setIfInBounds_toArray, List.set_cons_zero, List.set_cons_succ]
    refine Late.Goes.one (i := 19) (by kernel_rfl) (by simp only [List.getElem?_toArray, List.getElem?_cons_succ, List.getElem?_cons_zero]; rfl) (fun K hK => ?_)
    clear hH
    go_simp
    refine hK.out _ _ ?_ (fun _ => ?_)
    · exact fun e => by cases e
    clear hK K
    try simp only [Act.put, List.setIfInBounds_toArray, List.set_cons_zero, List.set_cons_succ]
    refine Late.Goes.done (by kernel_rfl) ?_ _
    have HUP := Lib.hid (upd_here HA2.out HL.out (fun f => ⟨f.bytes.take q, min f.synced q⟩))
    have hrg : g ≠ rp := fun e => (own_blk_ne HA2.out.row HA2.out.blk (by decide)) (by rw [← e]; rfl)
    have htl : (e.bytes.take q).length = q := by rw [List.length_take]; omega
    have ho5 : w3.ownsRow w2.heap.size 5 1 (.slice a5 n5 q5) (e.bytes.take q).length (cellsOf (e.bytes.take q)) := by rw [htl]; exact HO3.out
    have b8 : (e.synced : Int) ≤ 1000000000 := by have := HENT.out.1; omega
    by_cases hsq : q < e.synced
    · have hmin : min e.synced q = q := Nat.min_eq_right (by omega)
      have t9 : decide ((q : Int) < (e.synced : Int)) = true := by simpa using hsq
      have t9n : decide (q < e.synced) = true := by simpa using hsq
      have HT := Lib.hid (HA2.out.stBS HP0.out HB3.out (m := q) ho5 ⟨by omega, HTAKE.out⟩)
      clear ho5 htl hsq
      go_wp2_with fail
      go_ret
      exact HDONE.out _ _ HT.out (by rw [HF0.out]; show _ = ({ stepS S with files := upd _ _ (stepS S).files } : St); rw [HUP.out, ← HP.out]; simp only [REnt.file, hmin])
    · have hmin : min e.synced q = e.synced := Nat.min_eq_left (by omega)
      have t9 : decide ((q : Int) < (e.synced : Int)) = false := by simpa using hsq
      have t9n : decide (q < e.synced) = false := by simpa using hsq
      have HT := Lib.hid (HA2.out.stB HP0.out HB3.out ho5 ⟨by show e.synced ≤ _; omega, HTAKE.out⟩)
      clear ho5 htl hsq
      go_wp2_with fail
      go_ret
      exact HDONE.out _ _ HT.out (by rw [HF0.out]; show _ = ({ stepS S with files := upd _ _ (stepS S).files } : St); rw [HUP.out, ← HP.out]; simp only [REnt.file, hmin])
  · obtain rfl := now_keep hA1 hnow
    refine (reffect_no hA1 hnow HU.out HN.out).mono ?_
    rintro x w2 ⟨rfl, rs2, hA2, hb2, hf2⟩
    have HCR := Lib.hid (did_crash F hnow hbN hA2 hb2 hf2)
    clear hA1 hA2 hb2 hf2 hnow hbN c0 c1
    go_wp2_with fail
    go_ret
    exact HCR.out
end
end Go.Proofs.Ytiaaadeenbjciaa.Disk
