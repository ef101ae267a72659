/- What Parse answers. -/
import Derived.Test.YtbdbbnpkekcefaaCmdRead
import Derived.Test.YtbdbbnpkekcefaaGCmdLim
namespace Go.Proofs.Ytbdbbnpkekcefaa.Cmd
open Go.Proofs.Ytbdbbnpkekcefaa.Mem Go.Proofs.Ytbdbbnpkekcefaa.Pack
open Go.ChangeShapes Go.WideShapes Go.ChangeAt Go.RowKit
set_option linter.unusedVariables false
set_option linter.unusedSimpArgs false

theorem results_row_tmp {P : Program} {fn : Func} {p q : Tmp} {ty : TypeId} (h : fn.results = #[.cell p ty, .tmp q]) (tmps : Array Value) (w : World) (g : Nat) (t : TypeId) (cs : Array Value) (fr : Nat × Nat) (d : TypeDesc)
    (hp : tmps.getD p undef = .pointer (some ⟨g, 0, none⟩)) (hg : w.heap[g]? = some (.cells cs t fr))
    (hu : P.underlying ty = some d) (hd : (match d with | .struct _ | .array _ _ => true | _ => false) = true) (hi : (P.info? ty).map (·.size) = some cs.size) :
    (results fn tmps).run P w = .ok (.tuple #[.agg cs, tmps.getD q undef]) w := by
  have hp' : tmps[p]?.getD undef = .pointer (some ⟨g, 0, none⟩) := by simpa using hp
  simp [results, h, hp', asAddr, run_loadVar_row w g t ty cs fr d hg hu hd hi]
def zeroRq : Rq := ⟨0, 0, 0, zeroQuo, zeroTok, [], nothing, false, 0, 0, 0⟩
def rzero : Array Value := #[.int .i64 0, .int .u64 0, .int .i64 0, .int .i64 0, .int .i64 0, .int .i64 0, .int .i64 0, .int .u32 0, .int .u32 0, .int .u64 0, .slice none 0 0, .string ⟨#[]⟩, .bool false, .int .i64 0, .int .i64 0, .int .u32 0]
theorem rzero_eq : rcells zeroRq (.slice none 0 0) = rzero := rfl
theorem rzero_rv : rv zeroRq (.slice none 0 0) = .agg rzero := rfl
def ParseIs (zs : List Int) (w : World) (e : Ending) (w' : World) : Prop :=
  Below w.heap.size w w' ∧ ((isRq zs = true ∧ ∃ sv, e = .returned (.tuple #[rv (readRq ⟨zs, false⟩) sv, .nilIface]) ∧ OpsAt w' sv (readRq ⟨zs, false⟩).ops) ∨
    (isRq zs = false ∧ e = .returned (.tuple #[rv zeroRq (.slice none 0 0), .iface 57 (.int .i64 2)])))
theorem rcells_one {q : Rq} {w : World} {sv : Value} {l : List Op} (h : OpsAt w sv l) : (rcells q sv).all (fun x => x.oneCell') = true := by
  obtain ⟨a, c, rfl, -⟩ := h
  simp [rcells, Value.oneCell']
theorem rcells_size (q : Rq) (sv : Value) : (rcells q sv).size = 16 := rfl
theorem but_two (w : World) (B : Nat) (z cs : Array Value) (t : TypeId) (hB : B = w.heap.size) : But (fun _ => False) w ((w.alloc (.cells z t)).setRow B cs) :=
  but_setRow (fun _ => False) ((But.refl _ w).alloc _) (.inr (by omega)) cs
theorem OpsAt.new {w w' : World} {sv : Value} {l : List Op} (h : OpsAt w sv l) (hb : But (fun _ => False) w w') : OpsAt w' sv l := h.below hb.new
set_option maxRecDepth 100000 in
set_option maxHeartbeats 4000000 in
theorem cparse_any (a : Option Addr) (cap : Nat) (zs : List Int) (w : World) (h : Row w a zs.length zs) (hn : a = none → cap = 0) (hl : zs.length ≤ 1073741824) :
    Calls Try.prog 7 #[.slice a zs.length cap] w fun e w' => ParseIs zs w e w' := by
  have hzs := h.2.1
  have hA : Below w.heap.size w (w.alloc (.cells rzero 32)) := (Below.refl _ _).alloc (Nat.le_refl _) _
  have hread := read_any a cap zs _ (h.below hA) hn hl
  have hrow := fun w' hb => (h.below (w' := w') hb)
  have HROW := Lib.hid hrow
  have his := readRq_is (P := ⟨zs, false⟩) hzs
  have hrq : isRq zs = (lim (readRq ⟨zs, false⟩) && decide (bytesOf (readRq ⟨zs, false⟩) = zs)) := rfl
  unfold ParseIs
  obtain ⟨q, hq⟩ : ∃ q, q = readRq ⟨zs, false⟩ := ⟨_, rfl⟩
  unfold ReadIs at hread
  rw [← hq] at hread his hrq ⊢
  have HL := Lib.hid (fun sv w ho => lim_any q his sv w ho)
  have HPUT := Lib.hid (fun hl sv w ho => cput_any q hl his sv w ho)
  have HQ := Lib.hid hrq
  have HREAD := Lib.hid hread
  clear h hrow his hrq hq hread hA
  have hZ0 : Blk (w.alloc (.cells rzero 32)) w.heap.size 32 rzero := Blk.new _ _ _
  have HZ0 := Lib.hid hZ0
  clear hZ0
  have hb0 : But (fun _ => False) w (w.alloc (.cells rzero 32)) := (But.refl _ w).alloc _
  have HB0 := Lib.hid hb0
  clear hb0
  unfold rzero at HREAD HZ0 HB0
  rw [rzero_rv]
  go_enter Try.func7, Try.ntmps7
  go_wp2_with fail
  refine HREAD.out.mono ?_
  rintro e w1 ⟨sv, rfl, hof, hb1⟩
  have ho1 := hof.at_
  have hz1 := HZ0.out.but (But.of_new hb1 (S := fun _ => False)) (fun e => e)
  have hbut1 := HB0.out.trans (But.of_new hb1 (S := fun _ => False)) (fun _ _ e => e)
  obtain ⟨cs, hcs⟩ : ∃ cs, cs = rcells q sv := ⟨_, rfl⟩
  have hone := rcells_one (q := q) ho1
  have hsz : cs.size = 16 := by rw [hcs]; rfl
  rw [← hcs] at hone
  have hbutX := but_two w1 w1.heap.size rzero cs 32 rfl
  have hnewB : Blk (w1.alloc (.cells rzero 32)) w1.heap.size 32 rzero := Blk.new _ _ _
  have HNB := Lib.hid hnewB
  have hboxX : Blk ((w1.alloc (.cells rzero 32)).setRow w1.heap.size cs) w1.heap.size 32 cs := hnewB.row cs
  have HBOX := Lib.hid hboxX
  have HZX := Lib.hid (hz1.but hbutX (fun e => e))
  have HBX := Lib.hid (hbut1.trans hbutX (fun _ _ e => e))
  have HOX := Lib.hid (ho1.new hbutX)
  have HOF := Lib.hid (hof.but hbutX (fun k _ _ e => e))
  have HLX := Lib.hid (HL.out sv _ HOX.out)
  have HONE := Lib.hid hone
  have HSZ := Lib.hid (req_size.trans (show some 16 = some cs.size by rw [hsz]))
  have HOLD := Lib.hid (show rzero.size = cs.size by rw [hsz]; rfl)
  have hrv : rv q sv = .agg cs := by rw [hcs]; rfl
  rw [hrv] at HLX ⊢
  have HRV := Lib.hid hrv
  have HCS := Lib.hid hcs
  clear hz1 hbut1 hone hsz hbutX hnewB hboxX hrv hcs ho1 hof hb1 HREAD HZ0 HB0
  unfold rzero at HNB HBOX HZX HBX HOX HLX HOLD
  go_wp2_with (first
    | (refine wpList_store_rowTo rfl 32 _ _ rfl rfl w1.heap.size cs rfl rfl 32 _ HNB.out HSZ.out HOLD.out HONE.out ?_)
    | (refine wpList_load_row rfl 32 _ rfl w1.heap.size rfl 32 _ (0, 0) _ HBOX.out Try.underlying32 rfl HSZ.out ?_))
  refine HLX.out.mono ?_
  rintro e w2 ⟨rfl, hb2⟩
  have hbut2 : But (fun _ => False) _ w2 := But.of_new hb2
  have HB2 := Lib.hid (HBOX.out.but hbut2 (fun e => e))
  have HZ2 := Lib.hid (HZX.out.but hbut2 (fun e => e))
  have HW2 := Lib.hid (HBX.out.trans hbut2 (fun _ _ e => e))
  have HO2 := Lib.hid (HOX.out.new hbut2)
  have HF2 := Lib.hid (HOF.out.but hbut2 (fun k _ _ e => e))
  clear hb2 hbut2 HBOX HZX HBX HOX HOF HLX HNB HOLD HL
  obtain ⟨m, hm⟩ : ∃ m, m = lim q := ⟨_, rfl⟩
  rw [← hm] at HQ HPUT ⊢
  have HZS := Lib.hid ((req_size.trans (show some 16 = some rzero.size from rfl)))
  have HZ1 := Lib.hid (show rzero.all (fun x => x.oneCell') = true by simp [rzero, Value.oneCell'])
  clear hm
  cases m
  · have hq : isRq zs = false := HQ.out
    have hbZ := but_setRow (fun k => k = w.heap.size) (But.refl _ w2) (.inl rfl) rzero
    have HF := Lib.hid (And.intro hq ((HW2.out.trans hbZ (fun j hj e => by omega)).new))
    clear hq hbZ
    unfold rzero at HF HZS HZ1
    go_wp2_with (refine wpList_store_rowTo rfl 32 _ _ rfl rfl w.heap.size #[.int .i64 0, .int .u64 0, .int .i64 0, .int .i64 0, .int .i64 0, .int .i64 0, .int .i64 0, .int .u32 0, .int .u32 0, .int .u64 0, .slice none 0 0, .string ⟨#[]⟩, .bool false, .int .i64 0, .int .i64 0, .int .u32 0] rfl rfl 32 #[.int .i64 0, .int .u64 0, .int .i64 0, .int .i64 0, .int .i64 0, .int .i64 0, .int .i64 0, .int .u32 0, .int .u32 0, .int .u64 0, .slice none 0 0, .string ⟨#[]⟩, .bool false, .int .i64 0, .int .i64 0, .int .u32 0] HZ2.out HZS.out rfl HZ1.out ?_)
    refine bodyPost_ret (results_row_tmp rfl _ _ w.heap.size 32 #[.int .i64 0, .int .u64 0, .int .i64 0, .int .i64 0, .int .i64 0, .int .i64 0, .int .i64 0, .int .u32 0, .int .u32 0, .int .u64 0, .slice none 0 0, .string ⟨#[]⟩, .bool false, .int .i64 0, .int .i64 0, .int .u32 0] (0, 0) _ rfl (setRow_heap _ _ _ _ _ _ HZ2.out) Try.underlying32 rfl HZS.out) rfl ?_
    exact ⟨HF.out.2, .inr ⟨HF.out.1, rfl⟩⟩
  · have HPP := Lib.hid (HPUT.out rfl sv w2 HO2.out)
    simp only [rv, rcells] at HPP
    clear HPUT
    have c0 : w2.cell? ⟨w1.heap.size, 0, none⟩ = some (.int .i64 q.tag) := (HB2.out.cell 0).trans (by rw [HCS.out]; rfl)
    have c1 : w2.cell? ⟨w1.heap.size, 1, none⟩ = some (.int .u64 (q.admin : Int)) := (HB2.out.cell 1).trans (by rw [HCS.out]; rfl)
    have c2 : w2.cell? ⟨w1.heap.size, 2, none⟩ = some (.int .i64 q.bucket) := (HB2.out.cell 2).trans (by rw [HCS.out]; rfl)
    have c3 : w2.cell? ⟨w1.heap.size, 3, none⟩ = some (.int .i64 q.quo.k) := (HB2.out.cell 3).trans (by rw [HCS.out]; rfl)
    have c4 : w2.cell? ⟨w1.heap.size, 4, none⟩ = some (.int .i64 q.quo.b) := (HB2.out.cell 4).trans (by rw [HCS.out]; rfl)
    have c5 : w2.cell? ⟨w1.heap.size, 5, none⟩ = some (.int .i64 q.quo.g) := (HB2.out.cell 5).trans (by rw [HCS.out]; rfl)
    have c6 : w2.cell? ⟨w1.heap.size, 6, none⟩ = some (.int .i64 q.tok.b) := (HB2.out.cell 6).trans (by rw [HCS.out]; rfl)
    have c7 : w2.cell? ⟨w1.heap.size, 7, none⟩ = some (.int .u32 (q.tok.g : Int)) := (HB2.out.cell 7).trans (by rw [HCS.out]; rfl)
    have c8 : w2.cell? ⟨w1.heap.size, 8, none⟩ = some (.int .u32 (q.tok.s : Int)) := (HB2.out.cell 8).trans (by rw [HCS.out]; rfl)
    have c9 : w2.cell? ⟨w1.heap.size, 9, none⟩ = some (.int .u64 (q.tok.x : Int)) := (HB2.out.cell 9).trans (by rw [HCS.out]; rfl)
    have c10 : w2.cell? ⟨w1.heap.size, 10, none⟩ = some (sv) := (HB2.out.cell 10).trans (by rw [HCS.out]; rfl)
    have c11 : w2.cell? ⟨w1.heap.size, 11, none⟩ = some (.string q.after) := (HB2.out.cell 11).trans (by rw [HCS.out]; rfl)
    have c12 : w2.cell? ⟨w1.heap.size, 12, none⟩ = some (.bool q.first) := (HB2.out.cell 12).trans (by rw [HCS.out]; rfl)
    have c13 : w2.cell? ⟨w1.heap.size, 13, none⟩ = some (.int .i64 q.count) := (HB2.out.cell 13).trans (by rw [HCS.out]; rfl)
    have c14 : w2.cell? ⟨w1.heap.size, 14, none⟩ = some (.int .i64 q.rights) := (HB2.out.cell 14).trans (by rw [HCS.out]; rfl)
    have c15 : w2.cell? ⟨w1.heap.size, 15, none⟩ = some (.int .u32 (q.serial : Int)) := (HB2.out.cell 15).trans (by rw [HCS.out]; rfl)
    go_wp2_with fail
    clear c0 c1 c2 c3 c4 c5 c6 c7 c8 c9 c10 c11 c12 c13 c14 c15
    refine HPP.out.mono ?_
    rintro e w3 ⟨v, rfl, hown, hb3⟩
    obtain ⟨a2, c2, rfl, hr2, -, -⟩ := own_shape hown (bytesOf_bytes q)
    have hbut3 : But (fun _ => False) _ w3 := But.of_new hb3
    have HB3 := Lib.hid (HB2.out.but hbut3 (fun e => e))
    have HZ3 := Lib.hid (HZ2.out.but hbut3 (fun e => e))
    have HW3 := Lib.hid (HW2.out.trans hbut3 (fun _ _ e => e))
    have HO3 := Lib.hid (HF2.out.but hbut3 (fun k _ _ e => e))
    have heq := equal_any a2 a (bytesOf q).length zs.length c2 cap (bytesOf q) zs w3 hr2 (HROW.out _ HW3.out.new)
    obtain ⟨b, hb⟩ : ∃ b, b = decide (bytesOf q = zs) := ⟨_, rfl⟩
    have hq := HQ.out
    rw [← hb] at heq hq
    rw [Bool.true_and] at hq
    have HQ2 := Lib.hid hq
    clear hown hr2 hb3 hbut3 hb hq HB2 HZ2 HW2 HO2 HF2 HPP HQ
    go_wp2_with fail
    refine heq.mono ?_
    rintro e w4 ⟨rfl, rfl⟩
    clear heq
    cases b
    · have hbZ := but_setRow (fun k => k = w.heap.size) (But.refl _ w3) (.inl rfl) rzero
      have HF := Lib.hid ((HW3.out.trans hbZ (fun j hj e => by omega)).new)
      clear hbZ
      unfold rzero at HF HZS HZ1
      go_wp2_with (refine wpList_store_rowTo rfl 32 _ _ rfl rfl w.heap.size #[.int .i64 0, .int .u64 0, .int .i64 0, .int .i64 0, .int .i64 0, .int .i64 0, .int .i64 0, .int .u32 0, .int .u32 0, .int .u64 0, .slice none 0 0, .string ⟨#[]⟩, .bool false, .int .i64 0, .int .i64 0, .int .u32 0] rfl rfl 32 #[.int .i64 0, .int .u64 0, .int .i64 0, .int .i64 0, .int .i64 0, .int .i64 0, .int .i64 0, .int .u32 0, .int .u32 0, .int .u64 0, .slice none 0 0, .string ⟨#[]⟩, .bool false, .int .i64 0, .int .i64 0, .int .u32 0] HZ3.out HZS.out rfl HZ1.out ?_)
      refine bodyPost_ret (results_row_tmp rfl _ _ w.heap.size 32 #[.int .i64 0, .int .u64 0, .int .i64 0, .int .i64 0, .int .i64 0, .int .i64 0, .int .i64 0, .int .u32 0, .int .u32 0, .int .u64 0, .slice none 0 0, .string ⟨#[]⟩, .bool false, .int .i64 0, .int .i64 0, .int .u32 0] (0, 0) _ rfl (setRow_heap _ _ _ _ _ _ HZ3.out) Try.underlying32 rfl HZS.out) rfl ?_
      exact ⟨HF.out, .inr ⟨HQ2.out, rfl⟩⟩
    · have hbZ := but_setRow (fun k => k = w.heap.size) (But.refl _ w3) (.inl rfl) cs
      have HF := Lib.hid ((HW3.out.trans hbZ (fun j hj e => by omega)).new)
      have HOO := Lib.hid hbZ
      have HOLD := Lib.hid (show rzero.size = cs.size by have := HSZ.out; rw [req_size] at this; injection this)
      clear hbZ
      unfold rzero at HOLD
      go_wp2_with (first
        | (refine wpList_load_row rfl 32 _ rfl w1.heap.size rfl 32 _ (0, 0) _ HB3.out Try.underlying32 rfl HSZ.out ?_)
        | (refine wpList_store_rowTo rfl 32 _ _ rfl rfl w.heap.size cs rfl rfl 32 _ HZ3.out HSZ.out HOLD.out HONE.out ?_))
      refine bodyPost_ret (results_row_tmp rfl _ _ w.heap.size 32 cs (0, 0) _ rfl (setRow_heap _ _ _ _ _ _ HZ3.out) Try.underlying32 rfl HSZ.out) rfl ?_
      refine ⟨HF.out, .inl ⟨HQ2.out, sv, by rw [HRV.out]; rfl, ?_⟩⟩
      exact (HO3.out.but HOO.out (fun k h1 _ e => by simp at h1; omega)).at_
end Go.Proofs.Ytbdbbnpkekcefaa.Cmd
