/- Contract: files that a manifest doesn't tell are deleted. -/
import Derived.Test.YtkppliljlcihmaaGreatDoorGQ
namespace Go.Proofs.YtkppliljlcihmaaGreatDoor.Seg
open Go.Proofs.YtkppliljlcihmaaGreatDoor.Mem
open Go.Proofs.YtkppliljlcihmaaGreatDoor.Disk (Nm File St Eff Has grow errV used readOf lenOf run)
open Go.Proofs (encStr)
open Go.ChangeShapes Go.WideShapes Go.ChangeAt Go.RowKit
open Go.Maps (Keyed)
set_option linter.unusedVariables false
set_option linter.unusedSimpArgs false

section
variable {w w1 w2 : World} {p : Nat} {S S1 S2 : St} {F F1 F2 : Nat → Prop}
theorem Can.below {n : Nat} (h : Can w n) (hb : Below w.heap.size w w1) : Can w1 n := by
  rcases h with h | h
  · exact .inl h
  · refine .inr ?_
    unfold Lib.TabIs at h ⊢
    unfold World.var? at h ⊢
    cases hg : (Tryz.prog).globalNamed "internal/strconv.uint64pow10" with
    | none => rw [hg] at h; cases h
    | some g =>
      rw [hg] at h
      simp only [Option.bind_some] at h ⊢
      have hlt : g < w.heap.size := by
        rcases Nat.lt_or_ge g w.heap.size with h1 | h1
        · exact h1
        · rw [Array.getElem?_eq_none h1] at h; cases h
      rw [hb.block g hlt]; exact h
def toldBy (nums : List Nat) (n : Nm) : Bool := decide (n = nM ∨ n ∈ nums.map seg)
def untold (nums : List Nat) (l : List Nm) : List Nm := l.filter fun n => !toldBy nums n
structure TellsN (D : DataW Nat) (nums : List Nat) : Prop where
  map : Maps.IsMap D
  has : ∀ x, Maps.has D (.string x) = toldBy nums x
theorem tellsN_first : TellsN ((DataW.map ([] : List (Lit × DataW Nat))).put (.string nM) (.lit (.int .i64 0))) [] := by
  refine ⟨Maps.isMap_empty.put _ _, fun x => ?_⟩
  unfold toldBy
  by_cases h : x = nM
  · subst h
    rw [Maps.has_put_same (k := .string nM) Maps.isMap_empty trivial]; simp
  · rw [Maps.has_put_other (by simpa using h)]
    simp [h]; rfl
theorem TellsN.more {D : DataW Nat} {nums : List Nat} (h : TellsN D nums) (i : Nat) (d : DataW Nat) : TellsN (D.put (.string (seg i)) d) (nums ++ [i]) := by
  refine ⟨h.map.put _ _, fun x => ?_⟩
  by_cases hx : x = seg i
  · subst hx
    rw [Maps.has_put_same (k := .string (seg i)) h.map trivial]
    unfold toldBy; simp
  · rw [Maps.has_put_other (by simpa using hx), h.has]
    unfold toldBy
    simp [hx]
def inM : Value → Option (DataW Nat × List MemPlace)
  | .int .i64 a => some (.lit (.int .i64 a), [])
  | _ => none
theorem inM_int (a : Int) : inM (.int .i64 a) = some (.lit (.int .i64 a), []) := rfl
theorem inM_inv {v : Value} {z : DataW Nat × List MemPlace} (h : inM v = some z) : ∃ a, v = .int .i64 a := by
  unfold inM at h
  split at h
  · exact ⟨_, rfl⟩
  · cases h
theorem str_info : (Tryz.prog.info? 9).map (fun i => (i.zero, i.size, i.bytes)) = some (some (.string ⟨#[]⟩), 1, 16) := by kernel_rfl
def strCells (ns : List Nm) : List Value := ns.map encStr
theorem strs_of_own {base n : Nat} {v : Value} {ns : List Nm} (h : w.ownsRow base 9 1 v n (strCells ns)) : ∃ a c, v = .slice a n c ∧ n = ns.length ∧ Strs w a ns ∧ ∀ q, a = some q → base ≤ q.block := by
  have hl := h.1
  unfold strCells at hl
  rw [List.length_map] at hl
  have hln : n = ns.length := by omega
  rcases h.2 with ⟨h1, h2⟩ | ⟨g, cap, cur, rfl, h2, h3, h4, h5, h6, h7⟩
  · exact ⟨none, 0, by rw [h1, h2], hln, fun h0 => by omega, fun q hq => by cases hq⟩
  · refine ⟨_, cap, rfl, hln, fun h0 => ⟨g, 0, rfl, (h.lt g rfl).2, fun i hi => ?_⟩, fun q hq => by injection hq with hq; subst hq; exact h2⟩
    have := h.cellAt i (show i < n * 1 by omega)
    rw [Nat.zero_add, this]
    unfold strCells
    simp [hi]
theorem untold_snoc (nums : List Nat) (l : List Nm) (k : Nat) (h : k < l.length) : untold nums (l.take (k + 1)) = untold nums (l.take k) ++ if toldBy nums l[k] then [] else [l[k]] := by
  unfold untold
  rw [List.take_succ_eq_append_getElem h, List.filter_append]
  congr 1
  cases hq : toldBy nums l[k] <;> simp [hq]
theorem untold_length (nums : List Nat) (l : List Nm) : (untold nums l).length ≤ l.length := List.length_filter_le _ _
set_option maxRecDepth 100000 in
set_option maxHeartbeats 8000000 in
theorem deleteUntold_any (h : Dsk w p S F) {g c : Nat} {nums : List Nat} (hm : Nms w g 0 c nums) (hc : ∀ i ∈ nums, i ≤ 4294967295 ∧ Can w i) (hnl : nums.length ≤ 100000) (hsz : ∀ x ∈ S.files, x.1.length ≤ 1000000) (base : Nat) (begun : Bool) :
    Calls Tryz.prog 29 #[.pointer (some ⟨p, 0, none⟩), manV g 0 nums.length c base begun] w (After w p F (run (goneN (untold nums (S.files.map (·.1)))) S)) := by
  obtain ⟨i0, hi0, hz0, hz1, hz2⟩ := info_parts str_info
  obtain ⟨names, hnm⟩ : ∃ names, names = S.files.map (·.1) := ⟨_, rfl⟩
  have hnl2 : names.length = S.files.length := by rw [hnm]; exact List.length_map _
  rw [← hnm]
  have HNN := Lib.hid (And.intro hnm hnl2)
  obtain ⟨R, hRR⟩ : ∃ R, R = run (goneN (untold nums names)) S := ⟨_, rfl⟩
  rw [← hRR]
  have HRR := Lib.hid hRR
  have HNS := Lib.hid (show ∀ n ∈ names, n.length ≤ 1000000 from fun n hn => by rw [hnm] at hn; obtain ⟨x, hx, rfl⟩ := List.mem_map.1 hn; exact hsz x hx)
  clear hnm hnl2 hRR
  have hlt := h.lt
  have hmm := @run_makeMap Tryz.prog
  have hb0 := (Below.refl _ w).alloc (Nat.le_refl _) (.cells #[.slice (some ⟨g, 0, none⟩) nums.length c, .int .i64 (base : Int), .bool begun] 72)
  obtain ⟨W0, hW0⟩ : ∃ W, W = w.alloc (.cells #[.slice (some ⟨g, 0, none⟩) nums.length c, .int .i64 (base : Int), .bool begun] 72) := ⟨_, rfl⟩
  have hs0 : W0.heap.size = w.heap.size + 1 := by rw [hW0]; simp
  have hbx : Disk.Blk W0 w.heap.size 72 #[.slice (some ⟨g, 0, none⟩) nums.length c, .int .i64 (base : Int), .bool begun] := hW0 ▸ Disk.Blk.new _ _ _
  rw [← hW0] at hb0
  have hmade := World.ownsMap_made W0 Tryz.prog 9 inM
  obtain ⟨W1, hrun, hm1, hg1⟩ := hmade.update (t := 116) (e := 3) Disk.law Tryz.underlying116 (by unfold maxLen; omega) (WideMaps.keyOf_string_mk Tryz.underlying9 (s := ⟨#[109]⟩) (by decide)) (inM_int 0)
  have hbm : Below W0.heap.size W0 W1 := ((Below.refl _ W0).alloc (Nat.le_refl _) (.map #[] 0)).grown hg1 (by simp) (fun k hk => by injection hk with hk; omega)
  have hs1 : W0.heap.size + 1 ≤ W1.heap.size := by have := hg1.size; simp at this; omega
  rw [hs0] at hrun hm1 hbm hs1
  have ht1 : TellsN _ _ := tellsN_first
  have hl0 : W1.cell? ⟨w.heap.size, 0, none⟩ = some (.slice (some ⟨g, 0, none⟩) nums.length c) := (hbm.cell (p := ⟨w.heap.size, 0, none⟩) (by show w.heap.size < _; omega)).trans (hbx.cell 0)
  rw [hW0] at hrun
  have HB1 := Lib.hid (hb0.trans (hbm.mono (by omega)))
  have HM1 := Lib.hid (And.intro hm1 ht1)
  have H0 := Lib.hid h
  have HC := Lib.hid hc
  have HNM := Lib.hid hm
  have HSZ := Lib.hid hsz
  have HLT := Lib.hid hlt
  have HS1 := Lib.hid hs1
  clear hb0 hW0 hs0 hbx hmade hm1 hg1 hbm ht1 h hc hm hsz hlt hs1
  unfold manV
  go_enter Tryz.func29, Tryz.ntmps29
  go_wp2_with fail
  go_loopw [18] (fun i wr => ∃ (k : Nat) (D : DataW Nat), k ≤ nums.length ∧ i = .int .i64 (k : Int) ∧ wr.ownsMap Tryz.prog 9 inM (w.heap.size + 1) (k + 1) D ∧ TellsN D (nums.take k) ∧ Below w.heap.size w wr ∧ w.heap.size + 2 ≤ wr.heap.size) (fun i _ => nums.length - (intOf i).toNat)
  case atStart => exact ⟨0, _, Nat.zero_le _, rfl, HM1.out.1, HM1.out.2, HB1.out, HS1.out⟩
  case round =>
    obtain ⟨k, D, hk, rfl, hmp, htl, hb, hsz⟩ := hrel
    by_cases hlt : k < nums.length
    · have hcell : wr.cell? ⟨g, k, none⟩ = some (.int .i64 (nums[k] : Int)) := by
        have h1 := (HNM.out.below hb).cell k hlt
        rw [Nat.zero_add] at h1
        exact h1
      obtain ⟨hi1, hi2⟩ := HC.out nums[k] (List.getElem_mem hlt)
      have c1 := segmentFile_any (w := wr) nums[k] hi1 (hi2.below hb)
      have HMP := Lib.hid (And.intro hmp (And.intro htl (And.intro hb hsz)))
      clear hmp htl hb hsz hi2
      go_wp2_with fail
      refine c1.mono ?_
      rintro e w1 ⟨rfl, hb1⟩
      have hmp1 := Disk.ownsMap_but HMP.out.1 (But.of_new hb1 (S := fun _ => False)) (fun h => h)
      have HB2 := Lib.hid (And.intro hmp1 (And.intro (HMP.out.2.2.1.trans (hb1.mono HMP.out.2.2.1.size)) (show w.heap.size + 2 ≤ w1.heap.size from Nat.le_trans HMP.out.2.2.2 hb1.size)))
      clear c1 hmp1 hb1
      go_wp2_with (first | (at_mapUpdate; refine wpList_mapUpdate_own _ rfl _ _ _ 116 rfl 9 3 Disk.law Tryz.underlying116 _ (w.heap.size + 1) (k + 1) _ rfl HB2.out.1 (by unfold maxLen; omega) _ _ _ rfl rfl (WideMaps.keyOf_string_mk Tryz.underlying9 (segB_size _ hi1)) _ [] (inM_int _) ?_; intro w2 hm2 hg2))
      have htk : TellsN (D.put (.string (segB nums[k]).data.toList) (.lit (.int .i64 (nums[k] : Int)))) (nums.take (k + 1)) := by
        rw [List.take_succ_eq_append_getElem hlt]
        exact HMP.out.2.1.more nums[k] _
      have HB3 := Lib.hid (And.intro hm2 (And.intro htk (And.intro (HB2.out.2.1.grown hg2 (by have := HB2.out.2.2; omega) (fun j hj => by injection hj with hj; omega)) (Nat.le_trans HB2.out.2.2 hg2.size))))
      clear hm2 hg2 htk hcell
      go_wp2_with fail
      go_roundw
      case rel => exact ⟨k + 1, _, by omega, by go_num, HB3.out.1, HB3.out.2.1, HB3.out.2.2.1, HB3.out.2.2.2⟩
      case measure => simp [intOf]; omega
    · have hkl : k = nums.length := by omega
      have hall : nums.take k = nums := List.take_of_length_le (by omega)
      rw [hall] at htl
      subst hkl
      clear hall hlt hk hl0 hrun hmm
      have hD := H0.out.below hb
      have c1 := dsk_list hD
      rw [← HNN.out.1, ← HNN.out.2] at c1
      have HMP := Lib.hid (And.intro hmp (And.intro htl (And.intro hb hsz)))
      have hmany : names.length ≤ 1000 := by rw [HNN.out.2]; exact H0.out.2.many
      obtain ⟨n1, hn1⟩ : ∃ n1, n1 = names.length := ⟨_, rfl⟩
      clear hmp htl hb hsz hD
      obtain ⟨wo, hwo⟩ : ∃ wo : World, wo = wr := ⟨_, rfl⟩
      subst hwo
      go_wp2_with fail
      refine c1.mono ?_
      rintro e w1 ⟨v, rfl, ho, hb1⟩
      obtain ⟨a1, cp1, rfl, -, hst, hab⟩ := strs_of_own ho
      have hmp1 := Disk.ownsMap_but HMP.out.1 (But.of_new hb1 (S := fun _ => False)) (fun h => h)
      have HM1 := Lib.hid (And.intro hmp1 (And.intro hst hab))
      have HB1 := Lib.hid (HMP.out.2.2.1.trans (hb1.mono HMP.out.2.2.1.size))
      have HZ1 := Lib.hid (show wo.heap.size ≤ w1.heap.size from hb1.size)
      clear c1 ho hb1 hmp1 hst hab
      go_wp2_with fail
      go_loopw [8, 30] (fun v i wr => ∃ (k : Nat) (va : Option Addr) (n vc : Nat), k ≤ names.length ∧ i = .int .i64 (k : Int) ∧ v = .slice va n vc ∧ n = (untold nums (names.take k)).length ∧ wr.ownsRow w1.heap.size 9 1 (.slice va n vc) n (strCells (untold nums (names.take k))) ∧ Below w1.heap.size w1 wr) (fun _ i _ => names.length - (intOf i).toNat)
      case atStart => exact ⟨0, none, 0, 0, Nat.zero_le _, rfl, rfl, rfl, World.ownsRow_nil _ _ _ _, Below.refl _ _⟩
      case round =>
        obtain ⟨k, va, n, vc, hk, rfl, rfl, hn, ho, hb⟩ := hrel
        by_cases hlt : k < names.length
        · obtain ⟨b1, off1, rfl, hbl1, hcl1⟩ := HM1.out.2.1 (by omega)
          have hcell : wr.cell? ⟨b1, off1 + k, none⟩ = some (.string ⟨names[k].toArray⟩) := (hb.cell (p := ⟨b1, off1 + k, none⟩) hbl1).trans (hcl1 k hlt)
          have hmp2 := Disk.ownsMap_but HM1.out.1 (But.of_new hb (S := fun _ => False)) (fun h => h)
          have hks : (⟨names[k].toArray⟩ : ByteArray).size ≤ maxLen := by
            have h1 := HNS.out names[k] (List.getElem_mem hlt)
            show names[k].toArray.size ≤ maxLen
            unfold maxLen
            simp; omega
          obtain ⟨vl, ps, hlook, hvl⟩ := hmp2.look_ok Disk.law Tryz.underlying116 (show (zeroValue 3).run Tryz.prog wr = .ok (.int .i64 0) wr by kernel_rfl) (zd := .lit (.int .i64 0)) (zp := []) rfl (WideMaps.keyOf_string_mk Tryz.underlying9 hks)
          rw [HMP.out.2.1.has] at hlook
          obtain ⟨iv, rfl⟩ := inM_inv hvl
          have hus := untold_snoc nums names k hlt
          have e1 : ((⟨names[k].toArray⟩ : ByteArray).data.toList) = names[k] := by simp
          rw [e1] at hlook
          have HO := Lib.hid (And.intro hn (And.intro ho hb))
          clear hcl1 hmp2 hvl hks e1 ho hb hn
          cases htd : toldBy nums names[k]
          · rw [htd] at hlook hus
            have HUS := Lib.hid hus
            have hnle : n ≤ 1000 := by
              have h1 := untold_length nums (names.take k)
              have h2 := HO.out.1
              rw [List.length_take] at h1
              omega
            clear htd hus
            go_wp2_with (at_builtin; refine wpList_append_onto rfl _ _ 117 rfl w1.heap.size 9 i0 _ 1 16 Tryz.underlying117 hi0 hz0 hz1 hz2 rfl (by omega) (.slice va n vc) n (strCells (untold nums (names.take k))) rfl (ownsRow_alloc HO.out.2.1 _) _ 1 [.string ⟨names[k].toArray⟩] rfl (sees_one _ _ _ _) (by intro u hu; rw [List.mem_singleton.1 hu]; rfl) (by unfold maxLen; omega) (by omega) (by have := HO.out.2.2.size; simp; omega) ?_; intro v3 w3 ho3 hon3)
            have hun : untold nums (names.take (k + 1)) = untold nums (names.take k) ++ [names[k]] := HUS.out
            have hsc : strCells (untold nums (names.take k)) ++ [.string ⟨names[k].toArray⟩] = strCells (untold nums (names.take (k + 1))) := by rw [hun]; unfold strCells; rw [List.map_append]; rfl
            rw [hsc] at ho3
            have hb3 : Below w1.heap.size w1 w3 := HO.out.2.2.trans (((Below.refl w1.heap.size wr).alloc HO.out.2.2.size _).trans (hon3.but.below (by have := HO.out.2.2.size; simp; omega) (fun j hj => (HO.out.2.1.lt j hj.symm).1)))
            obtain ⟨a3, c3, rfl, hn3, -, -⟩ := strs_of_own ho3
            have HO3 := Lib.hid (And.intro ho3 (And.intro hb3 hn3))
            clear ho3 hon3 hsc hun hb3 hn3 hcell hlook
            go_wp2_with fail
            go_roundw
            case rel => exact ⟨k + 1, a3, _, c3, by omega, by go_num, rfl, HO3.out.2.2, HO3.out.1, HO3.out.2.1⟩
            case measure => simp [intOf]; omega
          · rw [htd] at hlook hus
            have HUS := Lib.hid hus
            clear htd hus
            go_wp2_with fail
            go_roundw
            case rel => exact ⟨k + 1, va, n, vc, by omega, by go_num, rfl, by rw [HUS.out]; simpa using HO.out.1, by rw [HUS.out]; simpa using HO.out.2.1, HO.out.2.2⟩
            case measure => simp [intOf]; omega
        · have hkl : k = names.length := by omega
          have hall : names.take k = names := List.take_of_length_le (by omega)
          rw [hall] at hn ho
          obtain ⟨a3, c3, hv3, hn3, hst3, hab3⟩ := strs_of_own ho
          obtain ⟨rfl, -, rfl⟩ : va = a3 ∧ n = n ∧ vc = c3 := by injection hv3 with q1 q2 q3; exact ⟨q1, rfl, q3⟩
          have hD3 : Dsk wr p S F := (H0.out.below HB1.out).below hb
          have c3 := deleteAll_any hD3 va vc (untold nums names) hst3 (fun q hq _ hF => by have h1 := hab3 q hq; have h2 := HLT.out _ hF; have h3 := HB1.out.size; omega) (fun m hm => by have := HNS.out m (List.mem_filter.1 hm).1; unfold maxLen; omega) (by have := untold_length nums names; omega)
          rw [← hn, ← HRR.out] at c3
          have HBR := Lib.hid (HB1.out.trans (hb.mono HB1.out.size))
          subst hkl
          clear hn ho hall hv3 hn3 hst3 hab3 hD3 hb hlt hk
          go_wp2_with fail
          refine c3.mono ?_
          rintro e w2 h2
          obtain ⟨rfl, h3⟩ := After.after HBR.out h2
          go_wp2
          go_ret
          exact ⟨rfl, h3⟩
end
end Go.Proofs.YtkppliljlcihmaaGreatDoor.Seg
