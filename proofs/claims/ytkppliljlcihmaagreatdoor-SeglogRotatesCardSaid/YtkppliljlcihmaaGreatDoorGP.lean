/- In one text: Contract: a manifest's segments, of any text. Contract: what the disk's manifest tells. -/
import Derived.Test.YtkppliljlcihmaaGreatDoorSegSwitch
import Derived.Lib.ConvBytes
namespace Go.Proofs.YtkppliljlcihmaaGreatDoor.Seg
open Go.Proofs.YtkppliljlcihmaaGreatDoor.Mem
open Go.Proofs.YtkppliljlcihmaaGreatDoor.Disk (Nm File St Eff Has grow errV used readOf lenOf run)
open Go.Proofs.YtkppliljlcihmaaGreatDoor.Pack (Rd num got left shortBy)
open Go.ChangeShapes Go.WideShapes Go.ChangeAt Go.RowKit
set_option linter.unusedVariables false
set_option linter.unusedSimpArgs false

section
variable {w w1 w2 : World} {p : Nat} {S : St} {F : Nat → Prop}
/- '[]byte(s)'. -/
theorem bytes_of (w : World) (s : ByteArray) (hs : s.size ≤ 1000000000) : ∃ W K, (convert 9 58 (.string s)).run Tryz.prog w = .ok (.slice (some ⟨w.heap.size, 0, none⟩) s.size K) W ∧ Row W (some ⟨w.heap.size, 0, none⟩) s.size (strBytes s) ∧ Below w.heap.size w W ∧ W.heap.size = w.heap.size + 1 := by
  refine ⟨_, _, Lib.run_convert_string_bytes w 9 58 5 s Tryz.underlying9 Tryz.underlying58 Tryz.underlying5, ?_, ?_, Lib.bytesWorld_size w _ s⟩
  · refine ⟨strBytes_length s, strBytes_bytes s, fun h0 => ⟨_, _, rfl, ?_, fun i hi => ?_⟩⟩
    · rw [Lib.bytesWorld_size]; exact Nat.lt_succ_self _
    · rw [Nat.zero_add, Lib.bytesWorld_cell w _ s i hi]
      unfold strBytes
      have hi2 : i < s.data.toList.length := by simpa using hi
      have hi3 : i < s.data.size := hi
      simp only [List.getD, List.getElem?_map, Array.getElem?_toList, Array.getElem?_eq_getElem hi3, Option.map_some, Option.getD_some]
  · refine ⟨rfl, rfl, rfl, ?_, fun k hk => Lib.bytesWorld_at_old w _ s k hk⟩
    rw [Lib.bytesWorld_size]; exact Nat.le_succ _
/- How many bytes a reader has left, as its cell tells. -/
def lenAt (w : World) (p : Nat) : Nat := match w.cell? ⟨p, 0, none⟩ with | some (.slice _ n _) => n | _ => 0
theorem lenAt_rd {D : Nat} {zs : List Int} {short : Bool} (h : Rd w p D zs short) : lenAt w p = zs.length := by
  obtain ⟨_, _, _, _, _, h6⟩ := h
  unfold lenAt
  rcases h6 with ⟨h6, rfl⟩ | ⟨off, cap, _, h6, _⟩
  · rw [h6]; rfl
  · rw [h6]
def OfSays (w : World) (zs : List Int) (e : Ending) (w' : World) : Prop :=
  Below w.heap.size w w' ∧ match segsFrom 0 zs with
    | some ns => ∃ v, e = .returned (.tuple #[v, .bool (decide (0 < ns.length))]) ∧ w'.ownsRow w.heap.size 3 1 v ns.length (intCells ns)
    | none => e = .returned (.tuple #[.slice none 0 0, .bool false])
theorem segsFrom_app {last : Nat} {zs : List Int} {ns : List Nat} {zs0 : List Int} (h : segsFrom 0 zs0 = (segsFrom last zs).map (ns ++ ·)) (hne : zs ≠ []) (hb : ¬ (num (got zs 4) ≤ last ∨ num (got zs 4) = 4294967295)) :
    segsFrom 0 zs0 = (segsFrom (num (got zs 4)) (left zs 4)).map ((ns ++ [num (got zs 4)]) ++ ·) := by
  rw [h, segsFrom_one hne hb, Option.map_map]
  congr 1
  funext x
  simp
set_option maxRecDepth 100000 in
set_option maxHeartbeats 4000000 in
theorem segmentsOf_any (s : ByteArray) (hs : s.size ≤ 65535) (w : World) :
    Calls Tryz.prog 81 #[.string s] w fun e w' => OfSays w (strBytes s) e w' := by
  obtain ⟨i1, hi1, hy0, hy1, hy2⟩ := info_parts Torn.int_info
  obtain ⟨W, K, hconv, hrow, hbW, hWs⟩ := bytes_of w s (by omega)
  have c1 := Pack.new_any _ _ K _ W hrow (fun h => by cases h) (by omega)
  have HBW := Lib.hid hbW
  have HWS := Lib.hid hWs
  clear hrow hbW hWs
  go_enter Tryz.func81, Tryz.ntmps81
  go_wp2_with fail
  refine c1.mono ?_
  rintro e W1 ⟨p, rfl, hp, D, hR, hb1, hD, hDp⟩
  have hpl : p < W1.heap.size := by
    have := hR.1
    exact World.block_lt_of_cell? _ _ this
  have HB1 := Lib.hid (HBW.out.trans (hb1.mono HBW.out.size))
  have HR := Lib.hid hR
  have HP := Lib.hid (And.intro hpl (show D < W1.heap.size by omega))
  clear hb1 hR c1 hconv
  go_wp2_with fail
  go_loopw [4, 5, 7] (fun v la _ wr => ∃ (zs : List Int) (short : Bool) (last : Nat) (ns : List Nat) (va : Option Addr) (n vc : Nat), Rd wr p D zs short ∧ segsFrom 0 (strBytes s) = (segsFrom last zs).map (ns ++ ·) ∧ la = .int .u64 (last : Int) ∧ v = .slice va n vc ∧ n = ns.length ∧ wr.ownsRow W1.heap.size 3 1 (.slice va n vc) n (intCells ns) ∧ Below w.heap.size w wr ∧ W1.heap.size ≤ wr.heap.size ∧ 4 * ns.length + zs.length ≤ 65540) (fun _ _ _ wr => lenAt wr p)
  case atStart =>
    refine ⟨strBytes s, false, 0, [], none, 0, 0, HR.out, ?_, rfl, rfl, rfl, World.ownsRow_nil _ _ _ _, HB1.out, Nat.le_refl _, ?_⟩
    · cases segsFrom 0 (strBytes s) <;> simp
    · rw [strBytes_length]; simp; omega
  case round =>
    obtain ⟨zs, short, last, ns, va, n, vc, hR, hsg, rfl, rfl, hn, ho, hb, hsz, hcnt⟩ := hrel
    have hlen := lenAt_rd hR
    have c1 := Pack.left_any p zs short wr hR
    by_cases hz : zs = []
    · subst hz
      rw [segsFrom_nil] at hsg
      simp only [Option.map_some, List.append_nil] at hsg
      have hfin : ∀ v, v = .slice va n vc → OfSays w (strBytes s) (.returned (.tuple #[v, .bool (decide (0 < n))])) wr := by
        intro v hv
        refine ⟨hb, ?_⟩
        rw [hsg]
        exact ⟨v, by rw [hn], by rw [hv, ← hn]; exact ownsRow_base_a ho (by have := HB1.out.size; omega)⟩
      have HF := Lib.hid hfin
      clear hsg hn ho hb hsz hcnt hR hfin hlen
      go_wp2_with fail
      refine c1.mono ?_
      rintro e w1 ⟨rfl, rfl⟩
      by_cases h0 : 0 < n
      · go_wp2_with fail
        go_ret2
        have := HF.out _ rfl
        rw [decide_eq_true h0] at this
        exact this
      · go_wp2_with fail
        go_ret2
        have := HF.out _ rfl
        rw [decide_eq_false h0] at this
        exact this
    · have hzl : 0 < zs.length := List.length_pos_iff.2 hz
      have c2 := Pack.number_any p zs short 4 (by omega) (by omega) wr hR
      have hlt := left_lt (k := 4) (by omega) hz
      have h4 := num4_lt hR.2.2.2.2.1
      obtain ⟨N, hN⟩ : ∃ N, N = num (got zs 4) := ⟨_, rfl⟩
      rw [← hN] at c2 h4
      have HC := Lib.hid (And.intro hlt (And.intro hlen hN))
      have HO := Lib.hid (And.intro hsg (And.intro ho (And.intro hb (And.intro hsz hn))))
      have hw : IntKind.i64.wrap (N : Int) = (N : Int) := by rw [IntKind.wrap_i64]; omega
      by_cases hbad : N ≤ last ∨ N = 4294967295
      · have hfin : ∀ W', But (fun b => b = p) wr W' → OfSays w (strBytes s) (.returned (.tuple #[.slice none 0 0, .bool false])) W' := by
          intro W' hW
          refine ⟨hb.trans (hW.below hb.size (fun k hk => by rw [show k = p from hk]; have := HWS.out; omega)), ?_⟩
          rw [hsg, segsFrom_bad hz (by rw [← hN]; exact hbad)]
          rfl
        have HF := Lib.hid hfin
        clear hlt hlen hN hsg ho hb hsz hn hR hcnt hz hfin
        go_wp2_with fail
        refine c1.mono ?_
        rintro e w1 ⟨rfl, rfl⟩
        go_wp2_with fail
        refine c2.mono ?_
        rintro e w2 ⟨rfl, hR2, hbt⟩
        have HE := Lib.hid (HF.out _ hbt)
        clear hR2 hbt c1 c2
        by_cases hle : N ≤ last
        · go_wp2_with fail
          go_ret2
          exact HE.out
        · have he : ((N : Int) == 4294967295) = true := by rw [beq_iff_eq]; omega
          have he2 : decide ((N : Int) ≤ (last : Int)) = false := decide_eq_false (by omega)
          go_wp2_with fail
          go_ret2
          exact HE.out
      · have hgt : ¬ N ≤ last := by omega
        have hne : ¬ N = 4294967295 := by omega
        have hsg2 := segsFrom_app hsg hz (by rw [← hN]; exact hbad)
        rw [← hN] at hsg2
        have hl4 : (left zs 4).length + 4 ≤ zs.length := by
          have : 4 ≤ zs.length := by
            rcases Nat.lt_or_ge zs.length 4 with h6 | h6
            · exfalso
              have e0 : got zs 4 = [] := if_neg (by omega)
              rw [hN, e0] at hgt
              exact hgt (Nat.zero_le _)
            · exact h6
          unfold left
          rw [if_pos this, List.length_drop]; omega
        have HS2 := Lib.hid hsg2
        have HL4 := Lib.hid hl4
        clear hlt hlen hN hsg ho hb hsz hn hR hz hbad hsg2 hl4
        go_wp2_with fail
        refine c1.mono ?_
        rintro e w1 ⟨rfl, rfl⟩
        go_wp2_with fail
        refine c2.mono ?_
        rintro e w2 ⟨rfl, hR2, hbt⟩
        have ho2 := ownsRow_but HO.out.2.1 hbt (fun k hk hk2 => by have := (HO.out.2.1.lt k hk).1; have := HP.out; omega)
        have HR2 := Lib.hid hR2
        have HBT := Lib.hid hbt
        have HO2 := Lib.hid ho2
        clear hR2 hbt c1 c2 ho2
        go_wp2_with (at_builtin; refine wpList_append_onto rfl _ _ 60 rfl W1.heap.size 3 i1 _ 1 8 Tryz.underlying60 hi1 hy0 hy1 hy2 rfl (by omega) (.slice va n vc) n (intCells ns) rfl (ownsRow_alloc HO2.out _) _ 1 [.int .i64 (N : Int)] rfl (sees_one _ _ _ _) (by intro u hu; rw [List.mem_singleton.1 hu]; rfl) (by have := HO.out.2.2.2.2; unfold maxLen; omega) (by have := HO.out.2.2.2.2; omega) (by have := HO.out.2.2.2.1; have := HBT.out.size; simp; omega) ?_; intro v3 w3 ho3 hon3)
        have hsz3 := hon3.grown.size
        have hR3 : Rd w3 p D (left zs 4) (shortBy zs 4 short) := by
          refine (HR2.out.but ((But.refl (fun _ => False) w2).alloc (.cells #[.int .i64 (N : Int)] 3)) (fun h => h) (fun h => h)).but hon3.but (fun hk => ?_) (fun hk => ?_)
          · have := (HO2.out.lt _ hk.symm).1; have := HP.out; omega
          · have := (HO2.out.lt _ hk.symm).1; have := HP.out; omega
        have hb3 : Below w.heap.size w w3 := by
          have h1 : Below w.heap.size wr w2 := HBT.out.below (HO.out.2.2.1.size) (fun k hk => by rw [show k = p from hk]; have := HWS.out; omega)
          have h2 : Below w.heap.size w2 w3 := ((Below.refl w.heap.size w2).alloc (Nat.le_trans HO.out.2.2.1.size HBT.out.size) (.cells #[.int .i64 (N : Int)] 3)).trans (hon3.but.below (by have := HO.out.2.2.1.size; have := HBT.out.size; simp; omega) (fun k hk => by have := (HO2.out.lt k hk.symm).1; have := HB1.out.size; omega))
          exact HO.out.2.2.1.trans (h1.trans h2)
        have HR3 := Lib.hid (And.intro hR3 hb3)
        rw [intCells_snoc] at ho3
        obtain ⟨g3, c3, rfl, -, -, -, -, -⟩ := nms_of_own ho3 (by simp) (by rw [List.length_append, List.length_singleton]; omega)
        have HO3 := Lib.hid ho3
        have hsz4 : W1.heap.size ≤ w3.heap.size := by
          have e : (w2.alloc (.cells #[.int .i64 (N : Int)] 3)).heap.size = w2.heap.size + 1 := by simp
          have := HO.out.2.2.2.1; have := HBT.out.size; omega
        have HSZ3 := Lib.hid hsz4
        have hcnt2 : 4 * (ns ++ [N]).length + (left zs 4).length ≤ 65540 := by
          have := HL4.out
          rw [List.length_append, List.length_singleton]; omega
        have HCN := Lib.hid hcnt2
        have hn2 : n + 1 = (ns ++ [N]).length := by rw [List.length_append, List.length_singleton, HO.out.2.2.2.2]
        have HN2 := Lib.hid hn2
        clear hR3 hb3 ho3 hon3 hsz3 hsz4 hcnt2 hn2
        go_wp2_with fail
        go_roundw
        case rel => exact ⟨left zs 4, _, N, ns ++ [N], some ⟨g3, 0, none⟩, n + 1, c3, HR3.out.1, HS2.out, rfl, rfl, HN2.out, HO3.out, HR3.out.2, HSZ3.out, HCN.out⟩
        case measure => rw [lenAt_rd HR3.out.1, HC.out.2.1]; exact HC.out.1
end
end Go.Proofs.YtkppliljlcihmaaGreatDoor.Seg
namespace Go.Proofs.YtkppliljlcihmaaGreatDoor.Seg
open Go.Proofs.YtkppliljlcihmaaGreatDoor.Mem
open Go.Proofs.YtkppliljlcihmaaGreatDoor.Disk (Nm File St Eff Has grow errV used readOf lenOf run)
open Go.Proofs.YtkppliljlcihmaaGreatDoor.Pack (Rd num got left shortBy textGot textLeft textShort)
open Go.ChangeShapes Go.WideShapes Go.ChangeAt Go.RowKit
set_option linter.unusedVariables false
set_option linter.unusedSimpArgs false

def noMan : Value := .agg #[.slice none 0 0, .int .i64 0, .bool false]
def form : Value := .iface 33 (.int .i64 2)
/- What is answered with a manifest, or none. -/
def ManSays (w : World) (o : Option (List Nat × Nat × Bool)) (e : Ending) (w' : World) : Prop :=
  match o with
  | some x => ∃ g c, e = .returned (.tuple #[manV g 0 x.1.length c x.2.1 x.2.2, .nilIface]) ∧ Nms w' g 0 c x.1 ∧ w.heap.size ≤ g
  | none => e = .returned (.tuple #[noMan, form])
def zeroM : Array Value := #[.slice none 0 0, .int .i64 0, .bool false]
def ResAt (W : World) (b : Nat) : Prop := Disk.Blk W b 72 zeroM
section
variable {w w1 w2 : World} {p : Nat} {S : St} {F : Nat → Prop}
theorem ResAt.new (w : World) : ResAt (w.alloc (.cells #[.slice none 0 0, .int .i64 0, .bool false] 72)) w.heap.size := Disk.Blk.new _ _ _
theorem ResAt.below {b : Nat} (h : ResAt w b) (hb : Below w.heap.size w w1) : ResAt w1 b := h.but (But.of_below hb) (fun hk => by have := h.lt; omega)
theorem ResAt.but {b : Nat} {T : Nat → Prop} (h : ResAt w b) (hb : But T w w1) (hT : ¬ T b) : ResAt w1 b := Disk.Blk.but h hb hT
theorem ResAt.cells {b : Nat} (h : ResAt w b) : w.cell? ⟨b, 0, none⟩ = some (.slice none 0 0) ∧ w.cell? ⟨b, 1, none⟩ = some (.int .i64 0) ∧ w.cell? ⟨b, 2, none⟩ = some (.bool false) ∧ w.frozen? ⟨b, 0, none⟩ = false ∧ w.frozen? ⟨b, 1, none⟩ = false ∧ w.frozen? ⟨b, 2, none⟩ = false := ⟨Disk.Blk.cell h 0, Disk.Blk.cell h 1, Disk.Blk.cell h 2, Disk.Blk.frozen h 0, Disk.Blk.frozen h 1, Disk.Blk.frozen h 2⟩
theorem ResAt.set3 {b : Nat} (h : ResAt w b) (x y z : Value) : Disk.Blk (((w.setCell ⟨b, 0, none⟩ x).setCell ⟨b, 1, none⟩ y).setCell ⟨b, 2, none⟩ z) b 72 #[x, y, z] := ((Disk.Blk.set_ h 0 x).set_ 1 y).set_ 2 z
theorem but_set3 (w : World) (b : Nat) (x y z : Value) : But (fun k => k = b) w (((w.setCell ⟨b, 0, none⟩ x).setCell ⟨b, 1, none⟩ y).setCell ⟨b, 2, none⟩ z) := (((But.refl (fun k => k = b) w).setCell (p := ⟨b, 0, none⟩) rfl x).setCell (p := ⟨b, 1, none⟩) rfl y).setCell (p := ⟨b, 2, none⟩) rfl z
theorem below_set3 {B b : Nat} (hb : Below B w w1) (hB : B ≤ b) (x y z : Value) : Below B w (((w1.setCell ⟨b, 0, none⟩ x).setCell ⟨b, 1, none⟩ y).setCell ⟨b, 2, none⟩ z) := ((hb.setCell hB x).setCell hB y).setCell hB z
set_option maxRecDepth 100000 in
set_option maxHeartbeats 4000000 in
theorem readManifest_any (h : Dsk w p S F) (hd : S.down = false) {f : File} (hl : Disk.look nM S.files = some f) (hby : Bytes f.bytes) :
    Calls Tryz.prog 55 #[.pointer (some ⟨p, 0, none⟩)] w fun e w' => ManSays w (manOf f.bytes) e w' ∧ Below w.heap.size w w' := by
  have hlen : f.bytes.length ≤ 1000000 := by
    have h1 := Disk.total_le_of (f := fun e : File => e.bytes.length) (Disk.look_mem hl)
    have h2 := h.2.used
    unfold Disk.used at h2
    exact Nat.le_trans h1 h2
  have hb0 := (Below.refl _ w).alloc (Nat.le_refl _) (.cells #[.slice none 0 0, .int .i64 0, .bool false] 72)
  have HR0 := Lib.hid (ResAt.new w)
  have c1 := readFile_yes (h.below hb0) hd ⟨#[109]⟩ (by decide) hl
  have HB0 := Lib.hid hb0
  obtain ⟨bs, hbs⟩ : ∃ bs, bs = f.bytes := ⟨_, rfl⟩
  rw [← hbs] at c1 hlen hby ⊢
  obtain ⟨M, hM⟩ : ∃ M, M = manOf bs := ⟨_, rfl⟩
  rw [← hM]
  have HM := Lib.hid hM
  clear h hd hl hb0 hbs hM
  have HY := Lib.hid hby
  clear hby
  go_enter Tryz.func55, Tryz.ntmps55
  go_wp2_with fail
  refine c1.mono ?_
  rintro e w1 ⟨a, c, rfl, hin, hb1⟩
  have HR1 := Lib.hid (HR0.out.below hb1)
  have HB1 := Lib.hid (HB0.out.trans (hb1.mono HB0.out.size))
  have c2 := Frame.get_any a c bs w1 hin (by omega)
  clear c1 hin hb1 HR0 HB0
  have hbody := Frame.body_bytes HY.out
  obtain ⟨bd, hbd⟩ : ∃ bd, bd = Frame.body bs := ⟨_, rfl⟩
  rw [← hbd] at c2 hbody
  by_cases hbad : Frame.bad bs = 0
  · have hbl : bd.length ≤ 1000000 := by
      rw [hbd]
      unfold Frame.body
      rw [if_pos hbad]
      unfold Frame.inner
      rw [List.length_take, List.length_drop]; omega
    rw [show Err.errV ((Frame.bad bs : Nat) : Int) = .nilIface from if_pos (by omega)] at c2
    have HBD := Lib.hid (And.intro hbad hbd)
    have HBY := Lib.hid hbody
    obtain ⟨m, hm⟩ : ∃ m, m = Frame.many bs := ⟨_, rfl⟩
    rw [← hm] at c2
    have HMY := Lib.hid hm
    clear hbad hbd hm hbody
    go_wp2_with fail
    refine c2.mono ?_
    rintro e w2 ⟨v, rfl, ho, hb2⟩
    obtain ⟨a2, cap2, rfl, hr2, -, hD2⟩ := own_shape ho HBY.out
    have hn2 : a2 = none → cap2 = 0 := fun hn => by rcases hD2 with ⟨_, h, _⟩ | ⟨g1, h1, _⟩; exact h; rw [hn] at h1; cases h1
    have HR2 := Lib.hid (HR1.out.below hb2)
    have HB2 := Lib.hid (HB1.out.trans (hb2.mono HB1.out.size))
    have c3 := Pack.new_any a2 _ cap2 bd w2 hr2 hn2 (by omega)
    have hlt2 : w.heap.size < w2.heap.size := HR2.out.lt
    clear hb2 c2 ho hr2 hD2 hn2 HR1 HB1
    by_cases hmy : m = bs.length
    · have tm : ((m : Int) == (bs.length : Int)) = true := by rw [beq_iff_eq]; omega
      go_wp2_with fail
      refine c3.mono ?_
      rintro e w3 ⟨r, rfl, hr, D, hR3, hb3, hD, hDr⟩
      have HR3 := Lib.hid (HR2.out.below hb3)
      have HB3 := Lib.hid (HB2.out.trans (hb3.mono HB2.out.size))
      have hne : w.heap.size ≠ r := by omega
      have c4 := Pack.text_any r bd false w3 hR3
      clear c3 hb3 hR3
      go_wp2_with fail
      refine c4.mono ?_
      rintro e w4 ⟨rfl, hR4, hb4⟩
      have HR4 := Lib.hid (HR3.out.but hb4 hne)
      have HB4 := Lib.hid (HB3.out.trans (hb4.below HB3.out.size (fun k hk => by rw [show k = r from hk]; omega)))
      have c5 := Pack.number_any r (textLeft bd) (textShort bd false) 4 (by omega) (by omega) w4 hR4
      clear c4 hb4 hR4
      go_wp2_with fail
      refine c5.mono ?_
      rintro e w5 ⟨rfl, hR5, hb5⟩
      have HR5 := Lib.hid (HR4.out.but hb5 hne)
      have HB5 := Lib.hid (HB4.out.trans (hb5.below HB4.out.size (fun k hk => by rw [show k = r from hk]; omega)))
      have c6 := Pack.number_any r _ _ 1 (by omega) (by omega) w5 hR5
      clear c5 hb5 hR5
      go_wp2_with fail
      refine c6.mono ?_
      rintro e w6 ⟨rfl, hR6, hb6⟩
      have HR6 := Lib.hid (HR5.out.but hb6 hne)
      have HB6 := Lib.hid (HB5.out.trans (hb6.below HB5.out.size (fun k hk => by rw [show k = r from hk]; omega)))
      have hRL := World.block_lt_of_cell? _ _ hR6.1
      have HR6R := Lib.hid (show Rd w6 r D (manRest bd) (manShort bd) from hR6)
      clear c6 hb6 hR6
      have hgb : Bytes (textGot bd) := Pack.got_bytes (Pack.left_bytes HBY.out 2) _
      have hgl : (textGot bd).length ≤ 65535 := by
        have h4 : (textGot bd).length ≤ Pack.textLen bd := Pack.got_length_le _ _
        have h5 : Pack.textLen bd < 65536 := Pack.num_got2_lt HBY.out
        omega
      have c7 := segmentsOf_any (strOfNums (textGot bd)) (by rw [strOf_size hgb]; exact hgl) w6
      rw [strBytes_strOf hgb] at c7
      obtain ⟨N, hN⟩ : ∃ N, N = manFlag bd := ⟨_, rfl⟩
      have hN1 : num (got (left (textLeft bd) 4) 1) = N := hN.symm
      obtain ⟨b0, hb0⟩ : ∃ b0, b0 = manBase bd := ⟨_, rfl⟩
      have hb1 : num (got (textLeft bd) 4) = b0 := hb0.symm
      have hbl4 : b0 < 4294967296 := by rw [hb0]; exact num4_lt (Pack.left_bytes (Pack.left_bytes HBY.out 2) _)
      rw [hN1, hb1]
      have HFB := Lib.hid (And.intro hN hb0)
      have hmt : manOf bs = match segsFrom 0 (textGot bd) with
          | some ns => if ns ≠ [] ∧ N ≤ 1 ∧ manShort bd = false ∧ manRest bd = [] then some (ns, b0, decide (N = 1)) else none
          | none => none := by
        unfold manOf
        rw [if_pos ⟨HBD.out.1, by rw [← HMY.out]; exact hmy⟩, ← HBD.out.2, hN, hb0]
        cases segsFrom 0 (textGot bd) <;> rfl
      have HMT := Lib.hid hmt
      clear hmt
      clear hN hN1 hb0 hb1
      cases hsg : segsFrom 0 (textGot bd) with
      | none =>
        have HN := Lib.hid (show manOf bs = none by rw [HMT.out, hsg])
        unfold OfSays at c7
        rw [hsg] at c7
        clear hsg
        go_wp2_with fail
        refine c7.mono ?_
        rintro e w7 ⟨hb7, rfl⟩
        have HR7 := Lib.hid (HR6.out.below hb7)
        have HB7 := Lib.hid (HB6.out.trans (hb7.mono HB6.out.size))
        clear hb7 c7
        obtain ⟨z0, z1, z2, y0, y1, y2⟩ := HR7.out.cells
        go_wp2
        refine bodyPost_ret (Rec.results_row_tmp rfl _ _ w.heap.size 72 #[.slice none 0 0, .int .i64 0, .bool false] (0, 0) _ rfl (HR7.out.set3 _ _ _) Tryz.underlying72 rfl man_size) rfl ?_
        rw [HM.out, HN.out]
        exact ⟨rfl, below_set3 HB7.out (Nat.le_refl _) _ _ _⟩
      | some ns =>
        unfold OfSays at c7
        rw [hsg] at c7
        have hnb := (segsFrom_is hgb hsg).2.2
        have HMU := Lib.hid (show manOf bs = if ns ≠ [] ∧ N ≤ 1 ∧ manShort bd = false ∧ manRest bd = [] then some (ns, b0, decide (N = 1)) else none by rw [HMT.out, hsg])
        clear hsg
        by_cases hns : ns = []
        · subst hns
          have HN := Lib.hid (show manOf bs = none by rw [HMU.out, if_neg (fun h => h.1 rfl)])
          go_wp2_with fail
          refine c7.mono ?_
          rintro e w7 ⟨hb7, v7, rfl, -⟩
          have HR7 := Lib.hid (HR6.out.below hb7)
          have HB7 := Lib.hid (HB6.out.trans (hb7.mono HB6.out.size))
          clear hb7 c7
          obtain ⟨z0, z1, z2, y0, y1, y2⟩ := HR7.out.cells
          go_wp2
          refine bodyPost_ret (Rec.results_row_tmp rfl _ _ w.heap.size 72 #[.slice none 0 0, .int .i64 0, .bool false] (0, 0) _ rfl (HR7.out.set3 _ _ _) Tryz.underlying72 rfl man_size) rfl ?_
          rw [HM.out, HN.out]
          exact ⟨rfl, below_set3 HB7.out (Nat.le_refl _) _ _ _⟩
        · have hnl : 0 < ns.length := List.length_pos_iff.2 hns
          have hdn : decide (0 < ns.length) = true := decide_eq_true hnl
          have c7 : Calls Tryz.prog 81 #[.string (strOfNums (textGot bd))] w6 fun e w' => Below w6.heap.size w6 w' ∧ ∃ v, e = .returned (.tuple #[v, .bool true]) ∧ w'.ownsRow w6.heap.size 3 1 v ns.length (intCells ns) := c7.mono fun e w' ⟨h1, v, h2, h3⟩ => ⟨h1, v, by rw [h2, hdn], h3⟩
          by_cases hN1 : N ≤ 1
          · obtain ⟨sh, hsh⟩ : ∃ sh, sh = manShort bd := ⟨_, rfl⟩
            obtain ⟨rs, hrs⟩ : ∃ rs, rs = manRest bd := ⟨_, rfl⟩
            have hrd : Rd w6 r D rs sh := by rw [hsh, hrs]; exact HR6R.out
            have HRD := Lib.hid hrd
            have HMV := Lib.hid (show manOf bs = if sh = false ∧ rs = [] then some (ns, b0, decide (N = 1)) else none by
              rw [HMU.out, hsh, hrs]
              by_cases h : manShort bd = false ∧ manRest bd = []
              · rw [if_pos ⟨hns, hN1, h⟩, if_pos h]
              · rw [if_neg (fun hc => h hc.2.2), if_neg h])
            clear hsh hrs hrd
            go_wp2_with fail
            refine c7.mono ?_
            rintro e w7 ⟨hb7, v7, rfl, ho7⟩
            have HR7 := Lib.hid (HR6.out.below hb7)
            have HB7 := Lib.hid (HB6.out.trans (hb7.mono HB6.out.size))
            have hrd7 : Rd w7 r D rs sh := HRD.out.but (But.of_below hb7) (show ¬ w6.heap.size ≤ r from Nat.not_le.2 hRL) (show ¬ w6.heap.size ≤ D from Nat.not_le.2 (Nat.lt_of_le_of_lt hDr hRL))
            have HO7 := Lib.hid ho7
            have c8 := Pack.short_any r rs sh w7 hrd7
            have c9 := Pack.left_any r rs sh w7 hrd7
            clear hb7 c7 ho7 hrd7
            go_wp2_with fail
            refine c8.mono ?_
            rintro e w8 ⟨rfl, rfl⟩
            cases sh
            · go_wp2_with fail
              refine c9.mono ?_
              rintro e w9 ⟨rfl, rfl⟩
              by_cases hr0 : rs = []
              · subst hr0
                have HN := Lib.hid (show manOf bs = some (ns, b0, decide (N = 1)) by rw [HMV.out]; exact if_pos (by simp))
                obtain ⟨g, cg, rfl, hgn, hgb2, hgl2, hgc, hcm, hcell⟩ := nms_of_own HO7.out hnl (by omega)
                have HG := Lib.hid (show Nms w7 g 0 cg ns from ⟨hgl2, by omega, hcm, hcell⟩)
                have hgw : w.heap.size ≤ g := by have := HB6.out.size; omega
                have HGW := Lib.hid (And.intro hgw (show g ≠ w.heap.size by have := HR6.out.lt; omega))
                have ewb : IntKind.i64.wrap (b0 : Int) = (b0 : Int) := by rw [IntKind.wrap_i64]; omega
                obtain ⟨z0, z1, z2, y0, y1, y2⟩ := HR7.out.cells
                clear hcell hgw hcm
                by_cases h1 : N = 1
                · have tb : ((N : Int) == 1) = true := by rw [beq_iff_eq]; omega
                  clear hgn
                  go_wp2
                  refine bodyPost_ret (Rec.results_row_tmp rfl _ _ w.heap.size 72 #[.slice (some ⟨g, 0, none⟩) ns.length cg, .int .i64 (b0 : Int), .bool true] (0, 0) _ rfl (HR7.out.set3 _ _ _) Tryz.underlying72 rfl man_size) rfl ?_
                  rw [HM.out, HN.out, decide_eq_true h1]
                  exact ⟨⟨g, cg, rfl, HG.out.but (but_set3 _ _ _ _ _) HGW.out.2, HGW.out.1⟩, below_set3 HB7.out (Nat.le_refl _) _ _ _⟩
                · have tb : ((N : Int) == 1) = false := by rw [beq_eq_false_iff_ne]; omega
                  clear hgn
                  go_wp2
                  refine bodyPost_ret (Rec.results_row_tmp rfl _ _ w.heap.size 72 #[.slice (some ⟨g, 0, none⟩) ns.length cg, .int .i64 (b0 : Int), .bool false] (0, 0) _ rfl (HR7.out.set3 _ _ _) Tryz.underlying72 rfl man_size) rfl ?_
                  rw [HM.out, HN.out, decide_eq_false h1]
                  exact ⟨⟨g, cg, rfl, HG.out.but (but_set3 _ _ _ _ _) HGW.out.2, HGW.out.1⟩, below_set3 HB7.out (Nat.le_refl _) _ _ _⟩
              · have hr1 : 0 < rs.length := List.length_pos_iff.2 hr0
                have HN := Lib.hid (show manOf bs = none by rw [HMV.out, if_neg (fun h => hr0 h.2)])
                obtain ⟨z0, z1, z2, y0, y1, y2⟩ := HR7.out.cells
                go_wp2
                refine bodyPost_ret (Rec.results_row_tmp rfl _ _ w.heap.size 72 #[.slice none 0 0, .int .i64 0, .bool false] (0, 0) _ rfl (HR7.out.set3 _ _ _) Tryz.underlying72 rfl man_size) rfl ?_
                rw [HM.out, HN.out]
                exact ⟨rfl, below_set3 HB7.out (Nat.le_refl _) _ _ _⟩
            · have HN := Lib.hid (show manOf bs = none by rw [HMV.out, if_neg (fun h => by cases h.1)])
              obtain ⟨z0, z1, z2, y0, y1, y2⟩ := HR7.out.cells
              go_wp2
              refine bodyPost_ret (Rec.results_row_tmp rfl _ _ w.heap.size 72 #[.slice none 0 0, .int .i64 0, .bool false] (0, 0) _ rfl (HR7.out.set3 _ _ _) Tryz.underlying72 rfl man_size) rfl ?_
              rw [HM.out, HN.out]
              exact ⟨rfl, below_set3 HB7.out (Nat.le_refl _) _ _ _⟩
          · have HN := Lib.hid (show manOf bs = none by rw [HMU.out, if_neg (fun h => hN1 h.2.1)])
            go_wp2_with fail
            refine c7.mono ?_
            rintro e w7 ⟨hb7, v7, rfl, -⟩
            have HR7 := Lib.hid (HR6.out.below hb7)
            have HB7 := Lib.hid (HB6.out.trans (hb7.mono HB6.out.size))
            clear hb7 c7
            obtain ⟨z0, z1, z2, y0, y1, y2⟩ := HR7.out.cells
            go_wp2
            refine bodyPost_ret (Rec.results_row_tmp rfl _ _ w.heap.size 72 #[.slice none 0 0, .int .i64 0, .bool false] (0, 0) _ rfl (HR7.out.set3 _ _ _) Tryz.underlying72 rfl man_size) rfl ?_
            rw [HM.out, HN.out]
            exact ⟨rfl, below_set3 HB7.out (Nat.le_refl _) _ _ _⟩
    · have tm : ((m : Int) == (bs.length : Int)) = false := by rw [beq_eq_false_iff_ne]; omega
      have hN : manOf bs = none := by unfold manOf; rw [if_neg (fun hc => hmy (HMY.out.trans hc.2))]
      have HN := Lib.hid hN
      clear hN c3
      obtain ⟨z0, z1, z2, y0, y1, y2⟩ := HR2.out.cells
      go_wp2
      refine bodyPost_ret (Rec.results_row_tmp rfl _ _ w.heap.size 72 #[.slice none 0 0, .int .i64 0, .bool false] (0, 0) _ rfl (HR2.out.set3 _ _ _) Tryz.underlying72 rfl man_size) rfl ?_
      rw [HM.out, HN.out]
      exact ⟨rfl, below_set3 HB2.out (Nat.le_refl _) _ _ _⟩
  · have hN : manOf bs = none := by unfold manOf; rw [if_neg (fun hc => hbad hc.1)]
    have HN := Lib.hid hN
    have hv : Err.errV ((Frame.bad bs : Nat) : Int) = .iface 33 (.int .i64 ((Frame.bad bs : Nat) : Int)) := if_neg (by omega)
    rw [hv] at c2
    clear hN hv hbad hbd hbody
    go_wp2_with fail
    refine c2.mono ?_
    rintro e w2 ⟨v, rfl, -, hb2⟩
    have HR2 := Lib.hid (HR1.out.below hb2)
    have HB2 := Lib.hid (HB1.out.trans (hb2.mono HB1.out.size))
    clear hb2 c2
    obtain ⟨z0, z1, z2, y0, y1, y2⟩ := HR2.out.cells
    go_wp2
    refine bodyPost_ret (Rec.results_row_tmp rfl _ _ w.heap.size 72 #[.slice none 0 0, .int .i64 0, .bool false] (0, 0) _ rfl (HR2.out.set3 _ _ _) Tryz.underlying72 rfl man_size) rfl ?_
    rw [HM.out, HN.out]
    exact ⟨rfl, below_set3 HB2.out (Nat.le_refl _) _ _ _⟩
end
end Go.Proofs.YtkppliljlcihmaaGreatDoor.Seg
