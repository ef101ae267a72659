/- The document's table in memory; its search, its count. -/
import Derived.Test.YtabclecfamkanaaDoorKeyEq
namespace Go.Proofs.YtabclecfamkanaaDoor.Key
open Go.Proofs.YtabclecfamkanaaDoor.Mem Go.Proofs.YtabclecfamkanaaDoor.Fnv
open Go.ChangeShapes Go.WideShapes Go.ChangeAt Go.RowKit
set_option linter.unusedVariables false
set_option linter.unusedSimpArgs false
def ubit (o : Option Ent) : Value := .bool o.isSome
structure RLo (w : World) (rp gl gu : Nat) (T : Tab) (X : List Ent) (n : Nat) : Prop where
  blk : Blk w rp 46 #[.slice (some ⟨gl, 0, none⟩) n n, .slice (some ⟨gu, 0, none⟩) n n]
  lrow : Blk w gl 38 (ecl X).toArray
  urow : Blk w gu 4 (T.map ubit).toArray
  len : T.length = n
  xlen : X.length = n
  same : ∀ j e, look T j = some e → X[j]? = some e
  few : 8 ≤ n ∧ n ≤ 4000
  pow : Pow (n : Int)
  small : ∀ e, some e ∈ T → e.key.size ≤ 100
section
variable {w w' : World} {rp gl gu n : Nat} {T : Tab} {X : List Ent}
theorem RLo.but {F : Nat → Prop} (h : RLo w rp gl gu T X n) (hb : But F w w') (h1 : ¬ F rp) (h2 : ¬ F gl) (h3 : ¬ F gu) : RLo w' rp gl gu T X n := ⟨h.blk.but hb h1, h.lrow.but hb h2, h.urow.but hb h3, h.len, h.xlen, h.same, h.few, h.pow, h.small⟩
theorem RLo.used (h : RLo w rp gl gu T X n) {k : Nat} (hk : k < n) : w.cell? ⟨gu, k, none⟩ = some (.bool (look T k).isSome) := by
  rw [h.urow.cell k, List.getElem?_toArray, List.getElem?_map, look_some (by rw [h.len]; exact hk)]
  rfl
theorem RLo.ent (h : RLo w rp gl gu T X n) {k : Nat} {e : Ent} (he : look T k = some e) (j : Nat) (hj : j < 7) : w.cell? ⟨gl, k * 7 + j, none⟩ = (ecells e)[j]? := by
  rw [h.lrow.cell, List.getElem?_toArray]
  exact flat_get ecells_length (h.same k e he) hj
theorem RLo.range (h : RLo w rp gl gu T X n) {k : Nat} {e : Ent} (he : X[k]? = some e) : w.rangeAt gl (k * 7) (ecells e) := blk_range ecells_length h.lrow he
set_option maxRecDepth 100000 in
set_option maxHeartbeats 1000000 in
theorem rfind_any (h : RLo w rp gl gu T X n) (hf : free T) (s : ByteArray) (hs : s.size ≤ 100) :
    Calls Tryd.prog 13 #[.pointer (some ⟨rp, 0, none⟩), .string s] w fun e w' => e = .returned (.int .i64 ((find T s : Nat) : Int)) ∧ w = w' := by
  have c0 : w.cell? ⟨rp, 0, none⟩ = some (.slice (some ⟨gl, 0, none⟩) n n) := h.blk.cell 0
  have c1 : w.cell? ⟨rp, 1, none⟩ = some (.slice (some ⟨gu, 0, none⟩) n n) := h.blk.cell 1
  obtain ⟨l1, l2⟩ := h.few
  have hh := refHome_yes s (by omega) h.pow w
  rw [home_nat] at hh
  have HH := Lib.hid hh
  have HK := Lib.hid h
  have hd := dist_free hf s
  rw [h.len] at hd
  have hml := hm_lt (show 0 < n by omega) s
  have HD := Lib.hid hd
  have HST := Lib.hid (fun d hd => dist_before (T := T) (s := s) (d := d) hd)
  have HFD := Lib.hid (show find T s = (hm n s + dist T s) % n by rw [find, h.len])
  have HSE := Lib.hid (find_stops hf s)
  rw [h.len] at HST
  obtain ⟨H, hH⟩ : ∃ H, H = hm n s := ⟨_, rfl⟩
  rw [← hH] at HH HST HFD hml
  clear hh hd h hH
  go_enter Tryd.func13, Tryd.ntmps13
  go_wp2_with fail
  refine HH.out.mono ?_
  rintro e w' ⟨rfl, rfl⟩
  go_wp2_with fail
  go_loop [7] (fun x => ∃ d : Nat, d ≤ dist T s ∧ x = .int .i64 (d : Int)) (fun x => n - (intOf x).toNat)
  case atStart => exact ⟨0, Nat.zero_le _, rfl⟩
  case round =>
    obtain ⟨d, hd, rfl⟩ := hrel
    have hdn := HD.out
    have hlt : d < n := by omega
    have htm : ((H : Int) + (d : Int)).tmod (n : Int) = (((H + d) % n : Nat) : Int) := by
      rw [Int.tmod_eq_emod_of_nonneg (by omega)]; exact (Int.natCast_emod (H + d) n).symm
    have hk : (H + d) % n < n := Nat.mod_lt _ (by omega)
    have hz : ((n : Int) == 0) = false := beq_eq_false_iff_ne.2 (by omega)
    have HSD := Lib.hid (fun hx => HST.out d hx)
    have HFE := Lib.hid (fun (hx : d = dist T s) => show find T s = (H + d) % n by rw [HFD.out, hx])
    obtain ⟨k, hkd⟩ : ∃ k, k = (H + d) % n := ⟨_, rfl⟩
    rw [← hkd] at hk htm HSD HFE
    clear hkd
    have u0 := HK.out.used hk
    by_cases hdd : d < dist T s
    · obtain ⟨e, hl, hne⟩ := stops_false (HSD.out hdd)
      rw [hl] at u0
      have u0' : w.cell? ⟨gu, k, none⟩ = some (.bool true) := u0
      have e0 : w.cell? ⟨gl, k * 7, none⟩ = some (.string e.key) := HK.out.ent hl 0 (by omega)
      clear u0 hl
      go_wp2_with fail
      go_round
      case rel => exact ⟨d + 1, by omega, by go_num⟩
      case measure => simp [intOf]; omega
    · have hde : d = dist T s := by omega
      have hst := HSE.out
      have HF2 := Lib.hid (HFE.out hde)
      rw [HF2.out] at hst
      clear HSD HFE hde hdd hdn hd
      rcases stops_true hst with hl | ⟨e, hl, heq⟩
      · rw [hl] at u0
        have u0' : w.cell? ⟨gu, k, none⟩ = some (.bool false) := u0
        clear u0 hst hl
        go_wp2_with fail
        go_ret
        exact ⟨by rw [HF2.out]; rfl, rfl⟩
      · rw [hl] at u0
        have u0' : w.cell? ⟨gu, k, none⟩ = some (.bool true) := u0
        have e0 : w.cell? ⟨gl, k * 7, none⟩ = some (.string e.key) := HK.out.ent hl 0 (by omega)
        clear u0 hst hl
        go_wp2_with fail
        go_ret
        exact ⟨by rw [HF2.out]; rfl, rfl⟩
set_option maxRecDepth 100000 in
set_option maxHeartbeats 1000000 in
theorem rlen_any (h : RLo w rp gl gu T X n) :
    Calls Tryd.prog 16 #[.pointer (some ⟨rp, 0, none⟩)] w fun e w' => e = .returned (.int .i64 ((cnt T : Nat) : Int)) ∧ w = w' := by
  have c1 : w.cell? ⟨rp, 1, none⟩ = some (.slice (some ⟨gu, 0, none⟩) n n) := h.blk.cell 1
  obtain ⟨l1, l2⟩ := h.few
  have HU := Lib.hid (fun k hk => h.used (k := k) hk)
  have HC := Lib.hid (fun k hk => cnt_take (T := T) (k := k) (by rw [h.len]; exact hk))
  have HE := Lib.hid (show cnt (T.take n) = cnt T by rw [List.take_of_length_le (by rw [h.len]; exact Nat.le_refl _)])
  have HL := Lib.hid (fun k => cnt_take_le T k)
  have hcl := cnt_le T
  rw [h.len] at hcl
  clear h
  go_enter Tryd.func16, Tryd.ntmps16
  go_wp2_with fail
  go_loop [3, 4] (fun y x => ∃ k m : Nat, k ≤ n ∧ m = cnt (T.take k) ∧ y = .int .i64 (m : Int) ∧ x = .int .i64 (k : Int)) (fun _ x => n - (intOf x).toNat)
  case atStart => exact ⟨0, 0, by omega, by simp [cnt], rfl, rfl⟩
  case round =>
    obtain ⟨k, m, hk, hm, rfl, rfl⟩ := hrel
    have hmb := HL.out k
    rw [← hm] at hmb
    by_cases hlt : k < n
    · have u0 := HU.out k hlt
      have HCK := Lib.hid (HC.out k hlt)
      have HM := Lib.hid hm
      clear hm
      cases hq : look T k with
      | none =>
        rw [hq] at u0 HCK
        have u1 : w.cell? ⟨gu, k, none⟩ = some (.bool false) := u0
        clear u0 hq
        go_wp2_with fail
        go_round
        case rel => exact ⟨k + 1, m, by omega, by rw [HCK.out, ← HM.out]; simp, rfl, by go_num⟩
        case measure => simp [intOf]; omega
      | some e =>
        rw [hq] at u0 HCK
        have u1 : w.cell? ⟨gu, k, none⟩ = some (.bool true) := u0
        clear u0 hq
        go_wp2_with fail
        go_round
        case rel => exact ⟨k + 1, m + 1, by omega, by rw [HCK.out, ← HM.out]; simp, by go_num, by go_num⟩
        case measure => simp [intOf]; omega
    · have hkn : k = n := by omega
      have HM := Lib.hid (show m = cnt T by rw [hm, hkn, HE.out])
      clear hm hkn
      go_wp2_with fail
      go_ret
      exact ⟨by rw [← HM.out]; rfl, rfl⟩
end
end Go.Proofs.YtabclecfamkanaaDoor.Key
