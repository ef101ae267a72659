/- In one text: Contracts: a log is opened whose manifest is none, or whose first segment is missing. A log is opened on a disk that has a file "m" alone, of any bytes: it is told ErrForm. -/
import Derived.Test.YtkppliljlcihmaaGreatDoorGS
import Derived.Handy
import Derived.Test.YtkppliljlcihmaaGreatDoorGU
import Derived.Test.YtkppliljlcihmaaGreatDoorGQ
namespace Go.Proofs.YtkppliljlcihmaaGreatDoor.Seg
open Go.Proofs.YtkppliljlcihmaaGreatDoor.Mem
open Go.Proofs.YtkppliljlcihmaaGreatDoor.Disk (Nm File St Eff Has grow errV used run)
open Go.ChangeShapes Go.WideShapes Go.ChangeAt Go.RowKit
set_option linter.unusedVariables false
set_option linter.unusedSimpArgs false

section
variable {w w1 w2 W W' : World} {p lb g c : Nat} {S S1 S2 : St} {F F1 F2 : Nat → Prop} {limit : Int} {nums : List Nat} {base : Nat} {begun : Bool}
def lost : Value := .tuple #[.slice none 0 0, .slice none 0 0, .iface 33 (.int .i64 2)]
def lost4 : Value := .tuple #[.pointer none, .slice none 0 0, .slice none 0 0, .iface 33 (.int .i64 2)]
set_option maxRecDepth 100000 in
set_option maxHeartbeats 4000000 in
theorem scan_missing (h : Dsk w p S F) (hd : S.down = false) (hlb : Disk.Blk w lb 77 (logC p limit g nums.length c base begun (.slice none 0 0) false)) (hm : Nms w g 0 c nums) (h0 : 0 < nums.length) {i : Nat} (hi : nums[0] = i) (hi9 : i ≤ 4294967295) (hcan : Can w i) (hno : Disk.look (seg i) S.files = none) :
    Calls Tryz.prog 30 #[.pointer (some ⟨lb, 0, none⟩)] w fun e w' => e = .returned lost ∧ Below w.heap.size w w' := by
  have c2 : w.cell? ⟨lb, 2, none⟩ = some (.slice (some ⟨g, 0, none⟩) nums.length c) := hlb.cell 2
  have hcell : w.cell? ⟨g, 0, none⟩ = some (.int .i64 (i : Int)) := by
    have h1 := hm.cell 0 h0
    rw [hi] at h1
    exact h1
  have H0 := Lib.hid (And.intro h (And.intro hd (And.intro hlb (And.intro hcan hno))))
  have hle : (0 : Int) < (nums.length : Int) := by omega
  have HI9 := Lib.hid hi9
  clear h hd hlb hm hi hi9 hcan hno h0
  go_enter Tryz.func30, Tryz.ntmps30
  go_wp2_with fail
  go_loopw [5, 6, 22] (fun v5 v6 i wr => v5 = .slice none 0 0 ∧ v6 = .slice none 0 0 ∧ i = .int .i64 0 ∧ wr = w) (fun _ _ _ _ => 0)
  case atStart => exact ⟨rfl, rfl, rfl, rfl⟩
  case round =>
    obtain ⟨rfl, rfl, rfl, rfl⟩ := hrel
    go_wp2_with fail
    refine Late.region_goes (fun W => Disk.Blk W lb 77 (logC p limit g nums.length c base begun (.slice none 0 0) false)) (fun _ => false) (by kernel_rfl) ?_ (fun hH => ?_)
    · exact Disk.Blk.but H0.out.2.2.1 ((But.refl (fun _ => False) wr).drew) (fun h => h)
    refine Late.Goes.takeT (i := 0) (v := ?_) (by simp only [List.getElem?_toArray, List.getElem?_cons_succ, List.getElem?_cons_zero]; rfl) (by kernel_rfl) (by kernel_rfl) (by kernel_rfl) (by kernel_rfl) (by kernel_rfl) (by exact fun _ _ _ h => h) (Or.inl ⟨by rfl, ?_⟩) hH ?_
    rotate_left
    · (intro wy hSw; (try dsimp only at hSw); have k0 : wy.cell? ⟨lb, 0, none⟩ = some (.pointer (some ⟨p, 0, none⟩)) := hSw.cell 0; go_simp; try (with_reducible rfl))
    try simp only [Act.put, List.setIfInBounds_toArray, List.set_cons_zero, List.set_cons_succ]
    refine Late.Goes.takeT (i := 1) (v := ?_) (by simp only [List.getElem?_toArray, List.getElem?_cons_succ, List.getElem?_cons_zero]; rfl) (by kernel_rfl) (by kernel_rfl) (by kernel_rfl) (by kernel_rfl) (by kernel_rfl) (by exact fun _ _ _ h => h) (Or.inl ⟨by rfl, ?_⟩) hH ?_
    rotate_left
    · (intro wy hSw; (try dsimp only at hSw); have k0 : wy.cell? ⟨lb, 0, none⟩ = some (.pointer (some ⟨p, 0, none⟩)) := hSw.cell 0; go_simp; try (with_reducible rfl))
    try simp only [Act.put, List.setIfInBounds_toArray, List.set_cons_zero, List.set_cons_succ]
    refine Late.Goes.takeT (i := 2) (v := ?_) (by simp only [List.getElem?_toArray, List.getElem?_cons_succ, List.getElem?_cons_zero]; rfl) (by kernel_rfl) (by kernel_rfl) (by kernel_rfl) (by kernel_rfl) (by kernel_rfl) (by exact fun _ _ _ h => h) (Or.inl ⟨by rfl, ?_⟩) hH ?_
    rotate_left
    · (intro wy hSw; (try dsimp only at hSw); have k0 : wy.cell? ⟨lb, 0, none⟩ = some (.pointer (some ⟨p, 0, none⟩)) := hSw.cell 0; go_simp; try (with_reducible rfl))
    try simp only [Act.put, List.setIfInBounds_toArray, List.set_cons_zero, List.set_cons_succ]
    refine Late.Goes.takeT (i := 3) (v := ?_) (by simp only [List.getElem?_toArray, List.getElem?_cons_succ, List.getElem?_cons_zero]; rfl) (by kernel_rfl) (by kernel_rfl) (by kernel_rfl) (by kernel_rfl) (by kernel_rfl) (by exact fun _ _ _ h => h) (Or.inl ⟨by rfl, ?_⟩) hH ?_
    rotate_left
    · (intro wy hSw; (try dsimp only at hSw); have k0 : wy.cell? ⟨lb, 0, none⟩ = some (.pointer (some ⟨p, 0, none⟩)) := hSw.cell 0; go_simp; try (with_reducible rfl))
    try simp only [Act.put, List.setIfInBounds_toArray, List.set_cons_zero, List.set_cons_succ]
    refine Late.Goes.takeT (i := 4) (v := ?_) (by simp only [List.getElem?_toArray, List.getElem?_cons_succ, List.getElem?_cons_zero]; rfl) (by kernel_rfl) (by kernel_rfl) (by kernel_rfl) (by kernel_rfl) (by kernel_rfl) (by exact fun _ _ _ h => h) (Or.inl ⟨by rfl, ?_⟩) hH ?_
    rotate_left
    · (intro wy hSw; (try dsimp only at hSw); have k0 : wy.cell? ⟨lb, 0, none⟩ = some (.pointer (some ⟨p, 0, none⟩)) := hSw.cell 0; go_simp; try (with_reducible rfl))
    try simp only [Act.put, List.setIfInBounds_toArray, List.set_cons_zero, List.set_cons_succ]
    refine Late.Goes.one (i := 5) (by kernel_rfl) (by simp only [List.getElem?_toArray, List.getElem?_cons_succ, List.getElem?_cons_zero]; rfl) (fun K hK => ?_)
    clear hH
    go_simp
    go_at_call 50
    refine (segmentFile_any i HI9.out (H0.out.2.2.2.1.below ((Below.refl _ wr).drew))).mono ?_
    rintro e w1 ⟨rfl, hb1⟩
    have hb := ((Below.refl _ wr).drew).trans hb1
    have HS1 := Lib.hid (And.intro (H0.out.1.below hb) (Disk.Blk.but H0.out.2.2.1 (But.of_new hb (S := fun _ => False)) (fun h => h)))
    have HB1 := Lib.hid hb
    clear hb1 hb
    refine hK.out _ _ ?_ (fun hH => ?_)
    · exact fun _ => HS1.out.2
    clear hK K
    have hH := hH rfl
    try simp only [Act.put, List.setIfInBounds_toArray, List.set_cons_zero, List.set_cons_succ]
    refine Late.Goes.one (i := 6) (by kernel_rfl) (by simp only [List.getElem?_toArray, List.getElem?_cons_succ, List.getElem?_cons_zero]; rfl) (fun K hK => ?_)
    clear hH
    go_simp
    go_at_call 60
    refine (readFile_none HS1.out.1 H0.out.2.1 (segB i) (segB_size i HI9.out) H0.out.2.2.2.2).mono ?_
    rintro e w2 ⟨rfl, rfl⟩
    refine hK.out _ _ ?_ (fun hH => ?_)
    · exact fun _ => HS1.out.2
    clear hK K
    have hH := hH rfl
    try simp only [Act.put, List.setIfInBounds_toArray, List.set_cons_zero, List.set_cons_succ]
    refine Late.Goes.takeT (i := 7) (v := ?_) (by simp only [List.getElem?_toArray, List.getElem?_cons_succ, List.getElem?_cons_zero]; rfl) (by kernel_rfl) (by kernel_rfl) (by kernel_rfl) (by kernel_rfl) (by kernel_rfl) (by exact fun _ _ _ h => h) (Or.inl ⟨by rfl, ?_⟩) hH ?_
    rotate_left
    · (intro wy hSw; (try dsimp only at hSw); have k0 : wy.cell? ⟨lb, 0, none⟩ = some (.pointer (some ⟨p, 0, none⟩)) := hSw.cell 0; go_simp; try (with_reducible rfl))
    try simp only [Act.put, List.setIfInBounds_toArray, List.set_cons_zero, List.set_cons_succ]
    refine Late.Goes.takeT (i := 8) (v := ?_) (by simp only [List.getElem?_toArray, List.getElem?_cons_succ, List.getElem?_cons_zero]; rfl) (by kernel_rfl) (by kernel_rfl) (by kernel_rfl) (by kernel_rfl) (by kernel_rfl) (by exact fun _ _ _ h => h) (Or.inl ⟨by rfl, ?_⟩) hH ?_
    rotate_left
    · (intro wy hSw; (try dsimp only at hSw); have k0 : wy.cell? ⟨lb, 0, none⟩ = some (.pointer (some ⟨p, 0, none⟩)) := hSw.cell 0; go_simp; try (with_reducible rfl))
    try simp only [Act.put, List.setIfInBounds_toArray, List.set_cons_zero, List.set_cons_succ]
    refine Late.Goes.takeT (i := 9) (v := ?_) (by simp only [List.getElem?_toArray, List.getElem?_cons_succ, List.getElem?_cons_zero]; rfl) (by kernel_rfl) (by kernel_rfl) (by kernel_rfl) (by kernel_rfl) (by kernel_rfl) (by exact fun _ _ _ h => h) (Or.inl ⟨by rfl, ?_⟩) hH ?_
    rotate_left
    · (intro wy hSw; (try dsimp only at hSw); have k0 : wy.cell? ⟨lb, 0, none⟩ = some (.pointer (some ⟨p, 0, none⟩)) := hSw.cell 0; go_simp; try (with_reducible rfl))
    try simp only [Act.put, List.setIfInBounds_toArray, List.set_cons_zero, List.set_cons_succ]
    refine Late.Goes.takeT (i := 10) (v := ?_) (by simp only [List.getElem?_toArray, List.getElem?_cons_succ, List.getElem?_cons_zero]; rfl) (by kernel_rfl) (by kernel_rfl) (by kernel_rfl) (by kernel_rfl) (by kernel_rfl) (by exact fun _ _ _ h => h) (Or.inl ⟨by rfl, ?_⟩) hH ?_
    rotate_left
    · (intro wy hSw; (try dsimp only at hSw); have k0 : wy.cell? ⟨lb, 0, none⟩ = some (.pointer (some ⟨p, 0, none⟩)) := hSw.cell 0; go_simp; try (with_reducible rfl))
    try simp only [Act.put, List.setIfInBounds_toArray, List.set_cons_zero, List.set_cons_succ]
    refine Late.Goes.takeT (i := 11) (v := ?_) (by simp only [List.getElem?_toArray, List.getElem?_cons_succ, List.getElem?_cons_zero]; rfl) (by kernel_rfl) (by kernel_rfl) (by kernel_rfl) (by kernel_rfl) (by kernel_rfl) (by exact fun _ _ _ h => h) (Or.inl ⟨by rfl, ?_⟩) hH ?_
    rotate_left
    · (intro wy hSw; (try dsimp only at hSw); have k0 : wy.cell? ⟨lb, 0, none⟩ = some (.pointer (some ⟨p, 0, none⟩)) := hSw.cell 0; go_simp; try (with_reducible rfl))
    try simp only [Act.put, List.setIfInBounds_toArray, List.set_cons_zero, List.set_cons_succ]
    refine Late.Goes.done (by kernel_rfl) ?_ _
    go_wp2_with fail
    go_ret3
    exact ⟨rfl, HB1.out⟩
theorem open_form (h : Dsk w p S F) (hd : S.down = false) (hl1 : 100 ≤ limit) (hl2 : limit ≤ 1073741824)
    (cM : Calls Tryz.prog 28 #[.pointer (some ⟨p, 0, none⟩)] w fun e w' => But F w w' ∧ e = .returned (.tuple #[noMan, form])) :
    Calls Tryz.prog 7 #[.pointer (some ⟨p, 0, none⟩), .int .i64 limit] w fun e w' => e = .returned lost4 ∧ But F w w' := by
  have cD := dsk_down h
  rw [hd] at cD
  have t1 : decide (limit < 100) = false := decide_eq_false (by omega)
  have t2 : decide (1073741824 < limit) = false := decide_eq_false (by omega)
  clear h hd hl1 hl2
  unfold noMan form at cM
  go_enter Tryz.func7, Tryz.ntmps7
  go_wp2_with fail
  refine cD.mono ?_
  rintro e w0 ⟨rfl, rfl⟩
  go_wp2_with fail
  refine cM.mono ?_
  rintro e w1 ⟨hb, rfl⟩
  have HB := Lib.hid hb
  clear cD cM hb
  go_wp2_with fail
  go_returns
  exact ⟨rfl, HB.out.alloc _⟩
set_option maxRecDepth 100000 in
set_option maxHeartbeats 8000000 in
theorem open_miss (h : Dsk w p S F) (hd : S.down = false) (hl1 : 100 ≤ limit) (hl2 : limit ≤ 1073741824) {T : St}
    (cM : Calls Tryz.prog 28 #[.pointer (some ⟨p, 0, none⟩)] w (ManAfter w p F (0, T) nums 0 begun))
    (hcan : ∀ i ∈ nums, i ≤ 4294967295 ∧ ∀ W, But F w W → Can W i) (hnl : nums.length ≤ 1000) (h0 : 0 < nums.length)
    (hsz : ∀ x ∈ T.files, x.1.length ≤ 1000000) (hun : untold nums (T.files.map (·.1)) = []) (hdT : T.down = false) (hno : Disk.look (seg nums[0]) T.files = none) :
    Calls Tryz.prog 7 #[.pointer (some ⟨p, 0, none⟩), .int .i64 limit] w fun e w' => e = .returned lost4 ∧ But F w w' := by
  have cD := dsk_down h
  rw [hd] at cD
  have t1 : decide (limit < 100) = false := decide_eq_false (by omega)
  have t2 : decide (1073741824 < limit) = false := decide_eq_false (by omega)
  have H0 := Lib.hid (And.intro h hd)
  have HLT := Lib.hid h.lt
  have HH := Lib.hid (And.intro hcan (And.intro hnl (And.intro h0 (And.intro hsz (And.intro hun (And.intro hdT hno))))))
  clear h hd hcan hsz hun hdT hno hl1 hl2
  go_enter Tryz.func7, Tryz.ntmps7
  go_wp2_with fail
  refine cD.mono ?_
  rintro e w0 ⟨rfl, rfl⟩
  go_wp2_with fail
  refine cM.mono ?_
  rintro e w1 ⟨F1, hS1, ⟨hr0, g, c, rfl, hN1, hg1, hgF⟩ | ⟨hr0, _⟩⟩
  · unfold manV
    have hb1 := (Below.refl _ w1).alloc (Nat.le_refl _) (.cells #[.slice (some ⟨g, 0, none⟩) nums.length c, .int .i64 0, .bool begun] 72)
    have c2 := deleteUntold_any (hS1.below_ hb1).1 (hN1.below hb1) (fun i hi => ⟨(HH.out.1 i hi).1, ((HH.out.1 i hi).2 _ hS1.2.2).below hb1⟩) (by omega) HH.out.2.2.2.1 0 begun
    rw [HH.out.2.2.2.2.1] at c2
    unfold manV at c2
    have HS1 := Lib.hid (hS1.below_ hb1)
    have HN1 := Lib.hid (And.intro (hN1.below hb1) (And.intro hg1 hgF))
    have hbx : Disk.Blk (w1.alloc (.cells #[.slice (some ⟨g, 0, none⟩) nums.length c, .int .i64 0, .bool begun] 72)) w1.heap.size 72 #[.slice (some ⟨g, 0, none⟩) nums.length c, .int .i64 0, .bool begun] := Disk.Blk.new _ _ _
    have HBX := Lib.hid hbx
    obtain ⟨W1, hW1⟩ : ∃ W, W = w1.alloc (.cells #[.slice (some ⟨g, 0, none⟩) nums.length c, .int .i64 0, .bool begun] 72) := ⟨_, rfl⟩
    rw [← hW1] at c2 HS1 HN1 HBX hbx
    have HZ1 := Lib.hid (show w.heap.size ≤ w1.heap.size ∧ g < w1.heap.size ∧ ∀ k, F1 k → k < w1.heap.size from ⟨hS1.size, hN1.lt, hS1.1.lt⟩)
    have n0 : W1.cell? ⟨w1.heap.size, 0, none⟩ = some _ := hbx.cell 0
    have n1 : W1.cell? ⟨w1.heap.size, 1, none⟩ = some _ := hbx.cell 1
    have n2 : W1.cell? ⟨w1.heap.size, 2, none⟩ = some _ := hbx.cell 2
    clear cM cD hS1 hN1 hg1 hgF hb1 hbx
    go_wp2_with fail
    rw [← hW1]
    clear hW1
    unfold After at c2
    have eR : run (goneN []) T = (0, T) := rfl
    rw [eR] at c2
    rw [errV_ok rfl] at c2
    refine c2.mono ?_
    rintro e w2 ⟨rfl, hN2⟩
    have HS2 := Lib.hid (HS1.out.trans hN2.step)
    have hbx2 := HBX.out.but hN2.2 (fun hF => by have := HZ1.out.2.2 _ hF; omega)
    have HM2 := Lib.hid (HN1.out.1.but hN2.2 HN1.out.2.2)
    have HC2 := Lib.hid (show ∀ i ∈ nums, Can w2 i from fun i hi => (HH.out.1 i hi).2 _ HS2.out.2.2)
    have n0 : w2.cell? ⟨w1.heap.size, 0, none⟩ = some _ := hbx2.cell 0
    have n1 : w2.cell? ⟨w1.heap.size, 1, none⟩ = some _ := hbx2.cell 1
    have n2 : w2.cell? ⟨w1.heap.size, 2, none⟩ = some _ := hbx2.cell 2
    clear c2 hN2 hbx2 eR
    have hbl := (Below.refl _ w2).alloc (Nat.le_refl _) (.cells #[.pointer (some ⟨p, 0, none⟩), .int .i64 limit, .slice (some ⟨g, 0, none⟩) nums.length c, .int .i64 0, .bool begun, .slice none 0 0, .bool false] 77)
    have hlb : Disk.Blk (w2.alloc (.cells #[.pointer (some ⟨p, 0, none⟩), .int .i64 limit, .slice (some ⟨g, 0, none⟩) nums.length c, .int .i64 0, .bool begun, .slice none 0 0, .bool false] 77)) w2.heap.size 77 (logC p limit g nums.length c 0 begun (.slice none 0 0) false) := Disk.Blk.new _ _ _
    have cS := scan_missing (HS2.out.below_ hbl).1 HH.out.2.2.2.2.2.1 hlb (HM2.out.below hbl) HH.out.2.2.1 rfl (HH.out.1 _ (List.getElem_mem _)).1 ((HC2.out _ (List.getElem_mem _)).below hbl) HH.out.2.2.2.2.2.2
    unfold lost at cS
    have HS3 := Lib.hid (HS2.out.below_ hbl).2.2
    obtain ⟨W2, hW2⟩ : ∃ W, W = w2.alloc (.cells #[.pointer (some ⟨p, 0, none⟩), .int .i64 limit, .slice (some ⟨g, 0, none⟩) nums.length c, .int .i64 0, .bool begun, .slice none 0 0, .bool false] 77) := ⟨_, rfl⟩
    rw [← hW2] at cS HS3
    clear hbl hlb
    go_wp2_with fail
    rw [← hW2]
    clear hW2
    refine cS.mono ?_
    rintro e w3 ⟨rfl, hb3⟩
    have HB3 := Lib.hid (HS3.out.trans (But.of_new hb3 (S := fun _ => False)) (fun _ _ e => e.elim))
    clear cS hb3 n0 n1 n2
    go_wp2_with fail
    go_returns
    exact ⟨rfl, HB3.out⟩
  · exact absurd rfl hr0
end
end Go.Proofs.YtkppliljlcihmaaGreatDoor.Seg
namespace Go.Proofs.YtkppliljlcihmaaGreatDoor.Seg
open Go.Proofs.YtkppliljlcihmaaGreatDoor.Mem
open Go.Proofs.YtkppliljlcihmaaGreatDoor.Disk (Nm File St Eff Has grow errV used run tot sees)
open Go.Proofs.YtkppliljlcihmaaGreatDoor.Frame (frm bad body many)
open Go.Proofs.YtkppliljlcihmaaGreatDoor.Pack (got left textGot textLen textLeft)
open Go.ChangeShapes Go.WideShapes Go.ChangeAt Go.RowKit
set_option linter.unusedVariables false
set_option linter.unusedSimpArgs false

theorem got_le (zs : List Int) (k : Nat) : (got zs k).length ≤ zs.length := by
  unfold got
  split
  · rw [List.length_take]; omega
  · exact Nat.zero_le _
theorem left_le (zs : List Int) (k : Nat) : (left zs k).length ≤ zs.length := by
  unfold left
  split
  · rw [List.length_drop]; omega
  · exact Nat.zero_le _
theorem man_few {bs : List Int} (hb : Bytes bs) {x : List Nat × Nat × Bool} (h : manOf bs = some x) : 4 * x.1.length ≤ bs.length := by
  unfold manOf at h
  split at h
  · split at h
    · next ns' hs =>
      split at h
      · next hc =>
        injection h with h
        subst h
        have hbb := Frame.body_bytes hb
        have ht : Bytes (textGot (body bs)) := Pack.got_bytes (Pack.left_bytes hbb 2) _
        obtain ⟨h1, h2, h3⟩ := segsFrom_is ht hs
        have h4 : (textGot (body bs)).length ≤ (body bs).length := Nat.le_trans (got_le _ _) (left_le _ _)
        have h5 : (body bs).length ≤ bs.length := by
          unfold body Frame.inner
          split
          · simp only [List.length_take, List.length_drop]
            omega
          · exact Nat.zero_le _
        show 4 * ns'.length ≤ _
        omega
      · cases h
    · cases h
  · cases h
def oddV (odd : List Int) : View := fun n => if n = nM then some ⟨odd, 0⟩ else none
theorem odd_math (odd : List Int) (hl : odd.length ≤ 1000) :
    ∃ S1 S2, (Eff.new nM).call (Disk.fresh 10000) = (0, S1) ∧ (Eff.add nM odd).call S1 = (0, S2) ∧ Up 10000 S2 ∧ S2.plan = none ∧ tot S2.files ≤ 1000 ∧ S2.files.length ≤ 1 ∧ vw S2.files = oddV odd := by
  have hv : vw (Disk.fresh 10000).files = fun _ => none := rfl
  obtain ⟨S1, h1, h2, h3, h4, h5, h6⟩ := deed_done (xs := [.new nM]) (up_fresh 10000) rfl ⟨by rw [hv]; rfl, trivial⟩ (by show 0 + 1 < 1000; omega) (by show ((0 + 0 : Nat) : Int) ≤ 10000; omega) (P := fun v => v = oddV []) (by
    funext n
    rw [hv]
    rfl)
  have e6 : tot S1.files ≤ 0 := h6
  have e5 : S1.files.length ≤ 1 := h5
  obtain ⟨S2, g1, g2, g3, g4, g5, g6⟩ := deed_done (xs := [.add nM odd]) h2 h4 ⟨by rw [h3]; rfl, trivial⟩ (by show S1.files.length + 0 < 1000; omega) (by show ((tot S1.files + (odd.length + 0) : Nat) : Int) ≤ 10000; omega) (P := fun v => v = oddV odd) (by
    rw [h3]
    funext n
    show (if n = nM then (oddV [] n).map _ else oddV [] n) = oddV odd n
    unfold oddV
    by_cases hn : n = nM
    · simp [hn]
    · simp [hn])
  rw [run_one] at h1 g1
  have e7 : tot S2.files ≤ tot S1.files + (odd.length + 0) := g6
  have e8 : S2.files.length ≤ S1.files.length + 0 := g5
  exact ⟨S1, S2, h1, g1, g2, g4, by omega, by omega, g3⟩
section
variable {w w1 w2 W W' : World} {p lb g c : Nat} {S S1 S2 : St} {F F1 F2 : Nat → Prop} {limit : Int} {nums : List Nat} {base : Nat} {begun : Bool} {odd : List Int}
theorem alone_names (hv : ∀ n, (vw S.files n).isSome = true → n = nM) : (∀ x ∈ S.files, x.1.length ≤ 1000000) ∧ untold nums (S.files.map (·.1)) = [] := by
  have hm : ∀ x ∈ S.files, x.1 = nM := fun x hx => hv x.1 (look_names.1 (List.mem_map.2 ⟨x, hx, rfl⟩))
  refine ⟨fun x hx => by rw [hm x hx]; decide, ?_⟩
  unfold untold
  rw [List.filter_eq_nil_iff]
  intro n hn
  obtain ⟨x, hx, rfl⟩ := List.mem_map.1 hn
  unfold toldBy
  simp [hm x hx]
theorem open_odd (h : Dsk w p S F) (hU : Up 10000 S) (hpl : S.plan = none) (htot : tot S.files ≤ 1000) (hlen : S.files.length ≤ 1) (hv : vw S.files = oddV odd) (hl : odd.length ≤ 1000) (hb : Bytes odd) (hcan : ∀ n W, But F w W → Can W n) (hl1 : 100 ≤ limit) (hl2 : limit ≤ 1073741824) :
    Calls Tryz.prog 7 #[.pointer (some ⟨p, 0, none⟩), .int .i64 limit] w fun e w' => e = .returned lost4 ∧ But F w w' := by
  have hT : Disk.look nT S.files = none := by have := congrFun hv nT; exact this.trans (if_neg t_m)
  have hM : Disk.look nM S.files = some ⟨odd, 0⟩ := by have := congrFun hv nM; exact this.trans (if_pos rfl)
  have e0 : run (opT (Disk.look nT S.files).isSome) S = (0, S) := by rw [hT]; rfl
  have cM := openManifest_ok h hU.up (by rw [e0]) hM hb (fun x hx => by have := man_few hb hx; show x.1.length ≤ 4000; have : 4 * x.1.length ≤ odd.length := this; omega)
  rw [e0] at cM
  rcases hm : manOf odd with _ | ⟨ns, bs, bg⟩
  · have cM2 : Calls Tryz.prog 28 #[.pointer (some ⟨p, 0, none⟩)] w (OMSays w p F S (manOf odd)) := cM
    rw [hm] at cM2
    exact open_form h hU.up hl1 hl2 (cM2.mono fun e w' ⟨⟨F', hs⟩, he⟩ => ⟨hs.2.2, he⟩)
  · have cM2 : Calls Tryz.prog 28 #[.pointer (some ⟨p, 0, none⟩)] w (OMSays w p F S (manOf odd)) := cM
    rw [hm] at cM2
    unfold OMSays at cM2
    have hfew : 4 * ns.length ≤ odd.length := man_few hb hm
    obtain ⟨hN, hi, hbs, _⟩ := manOf_is hb hm
    have hkl : (kept bs ns).length ≤ ns.length := by
      unfold kept
      split
      · exact Nat.le_refl _
      · exact List.length_filter_le _ _
    by_cases hk : kept bs ns = []
    · simp only [if_pos hk] at cM2
      exact open_form h hU.up hl1 hl2 (cM2.mono fun e w' ⟨⟨F', hs⟩, he⟩ => ⟨hs.2.2, he⟩)
    · simp only [if_neg hk] at cM2
      have hadd : adds (opM bs (kept bs ns) bg) ≤ 15 + 4 * ns.length := by
        unfold opM
        split
        · exact Nat.zero_le _
        · rw [adds_sw, man_length]; omega
      have hnew : news (opM bs (kept bs ns) bg) ≤ 1 := by
        unfold opM
        split
        · exact Nat.zero_le _
        · exact Nat.le_refl _
      obtain ⟨T, h1, h2, h3, h4, h5, h6⟩ := deed_done (xs := opM bs (kept bs ns) bg) hU hpl (by
        unfold opM
        split
        · exact trivial
        · exact sw_mays (by rw [hv]; exact if_neg t_m) _) (by omega) (by omega) (P := fun v => ∀ n, (v n).isSome = true → n = nM) (fun n hn => by
        rw [hv] at hn
        unfold opM at hn
        split at hn
        · have hn : ((if n = nM then some (⟨odd, 0⟩ : File) else none)).isSome = true := hn
          by_cases q : n = nM
          · exact q
          · rw [if_neg q] at hn; cases hn
        · rw [sw_all] at hn
          by_cases q : n = nM
          · exact q
          · rw [if_neg q] at hn
            have e9 : oddV odd n = none := if_neg q
            rw [e9] at hn
            split at hn <;> cases hn)
      rw [h1] at cM2
      have hno : ∀ i, Disk.look (seg i) T.files = none := fun i => by
        cases hc : Disk.look (seg i) T.files with
        | none => rfl
        | some f => exact absurd (h3 (seg i) (by show (Disk.look (seg i) T.files).isSome = true; rw [hc]; rfl)) (seg_m i)
      have hal := alone_names (nums := kept bs ns) h3
      exact open_miss h hU.up hl1 hl2 cM2 (fun i hi2 => ⟨by have := hi i (mem_kept hi2); omega, fun W hW => hcan i W hW⟩) (by omega) (List.length_pos_iff.2 hk) hal.1 hal.2 h2.up (hno _)
end
end Go.Proofs.YtkppliljlcihmaaGreatDoor.Seg
