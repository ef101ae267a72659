/- What was put is parsed as it was; what is parsed is put as those bytes; what is decoded is encoded as those: the walk of the law CommandBack. -/
import Derived.Test.YtbdbbnpkekcefaaCmdUp
import Derived.Test.YtbdbbnpkekcefaaCmdAs
import Derived.Test.YtbdbbnpkekcefaaCmdRSame
import Derived.Test.YtbdbbnpkekcefaaCmdDecode
import Derived.Test.YtbdbbnpkekcefaaLate
namespace Go.Proofs.Ytbdbbnpkekcefaa.Cmd
open Go.Proofs.Ytbdbbnpkekcefaa.Mem Go.Proofs.Ytbdbbnpkekcefaa.Pack Go.Proofs.Ytbdbbnpkekcefaa.Err
open Go.ChangeShapes Go.WideShapes Go.ChangeAt Go.RowKit
set_option linter.unusedVariables false
set_option linter.unusedSimpArgs false

theorem yields_row {ops : Array Oper} {S : World → Prop} {op : Oper} {a : Act} (hw : Region.wanted op (yielded ops a.tmps) = true) (ty : TypeId) (x : Operand) (ho : op.op = .load ty x) (b : Nat) (hx : a.eval x = .pointer (some ⟨b, 0, none⟩)) (cs : Array Value) (d : TypeDesc) (hd : (match d with | .struct _ | .array _ _ => true | _ => false) = true) (hu : Try.prog.underlying ty = some d) (hi : (Try.prog.info? ty).map (·.size) = some cs.size) (hS : ∀ w, S w → Blk w b ty cs) : YieldsIf Try.prog ops S op (.agg cs) a :=
  .inl ⟨hw, fun w h => by
    unfold execOp
    simp only [ho, hx, Instr.loadAt, Instr.sureAddr, Sem.run_bind, Sem.run_pure, Result.andThen_ok, run_loadVar_row w b ty ty cs (0, 0) d (hS w h) hu (by cases d <;> first | rfl | cases hd) hi]⟩
theorem made8 (w : World) : (w.alloc (.cells #[] 5)).ownsRow w.heap.size 5 1 (.slice (some ⟨w.heap.size, 0, none⟩) 0 0) 0 (cellsOf []) := World.ownsRow_made w #[] 0 (Nat.le_refl _) (by unfold maxLen; omega) (by rfl)
theorem cparse_len (a : Option Addr) (n cap : Nat) (zs : List Int) (w : World) (h : Row w a n zs) (hn : a = none → cap = 0) (hl : n ≤ 1073741824) :
    Calls Try.prog 7 #[.slice a n cap] w fun e w' => ParseIs zs w e w' := by
  have e := h.1
  subst e
  exact cparse_any a cap zs w h hn hl
theorem decode_len (a : Option Addr) (n cap : Nat) (zs : List Int) (w : World) (h : Row w a n zs) (hn : a = none → cap = 0) (hl : n ≤ 1073741824) :
    Calls Try.prog 18 #[.slice a n cap] w fun e w' => DecIs zs w e w' := by
  have e := h.1
  subst e
  exact decode_any a cap zs w h hn hl
/- What is parsed may be put, as those bytes. -/
theorem parsed_put {zs : List Int} (h : isRq zs = true) : mayPut (readRq ⟨zs, false⟩) ∧ bytesOf (readRq ⟨zs, false⟩) = zs := by
  unfold isRq at h
  rw [Bool.and_eq_true] at h
  have e := of_decide_eq_true h.2
  exact ⟨⟨h.1, by rw [e]⟩, e⟩
/- What was put is parsed as it was; with a byte more it isn't. -/
theorem put_parsed {q : Rq} (h : mayPut q) : isRq (bytesOf q) = true ∧ readRq ⟨bytesOf q, false⟩ = q ∧ isRq (bytesOf q ++ [0]) = false := by
  obtain ⟨h1, h2⟩ := h
  refine ⟨?_, h2, ?_⟩
  · unfold isRq; rw [h2, h1]; simp
  · have h3 := (read_front (P := ⟨bytesOf q, false⟩) (bytesOf_bytes q) (by rw [h2]; exact h1) [0] false).1
    rw [h2] at h3
    unfold isRq
    rw [h3]
    have hne : bytesOf q ≠ bytesOf q ++ [0] := fun e => by have := congrArg List.length e; simp at this
    rw [decide_eq_false hne, Bool.and_false]
set_option maxRecDepth 100000 in
set_option maxHeartbeats 16000000 in
theorem back_any (q : Rq) (hi : RqIs q) (sv : Value) (w00 : World) (hops : OpsAt w00 sv q.ops) (hl : q.ops.length ≤ 9223372036854775807) (a1 a2 : Option Addr) (L1 L2 cap1 cap2 : Nat) (zs1 zs2 : List Int) (hr1 : Row w00 a1 L1 zs1) (hr2 : Row w00 a2 L2 zs2) (hn1 : a1 = none → cap1 = 0) (hn2 : a2 = none → cap2 = 0) (hl1 : L1 ≤ 9223372036854775807) (hl2 : L2 ≤ 9223372036854775807) :
    Calls Try.prog 5 #[rv q sv, .slice a1 L1 cap1, .slice a2 L2 cap2] w00 fun e w' => e = .returned (.bool true) ∧ Below w00.heap.size w00 w' := by
  obtain ⟨i0, hi0, hz0, hz1, hz2⟩ := info_parts u8_info
  have hone := rcells_one (q := q) hops
  obtain ⟨cq, hcq⟩ : ∃ cs, cs = rcells q sv := ⟨_, rfl⟩
  have hrv : rv q sv = .agg cq := by rw [hcq]; rfl
  have hsz : cq.size = 16 := by rw [hcq]; rfl
  have hb0 : But (fun _ => False) w00 (w00.alloc (.cells cq 32)) := (But.refl _ w00).alloc _
  have hbq : Blk (w00.alloc (.cells cq 32)) w00.heap.size 32 cq := Blk.new _ _ _
  obtain ⟨w, hw⟩ : ∃ W, W = w00.alloc (.cells cq 32) := ⟨_, rfl⟩
  rw [← hw] at hb0 hbq
  have HW0 := Lib.hid hw
  have H00 := Lib.hid hb0.new
  have HRBW := Lib.hid (fun V (hV : But (fun _ => False) w V) => (hr1.but hb0 (fun _ _ _ e => e)).but hV (fun _ _ _ e => e))
  have HRCW := Lib.hid (fun V (hV : But (fun _ => False) w V) => (hr2.but hb0 (fun _ _ _ e => e)).but hV (fun _ _ _ e => e))
  have HRB := HRBW
  have HRC := HRCW
  have HQB := Lib.hid (fun V (hV : But (fun _ => False) w V) => hbq.but hV (fun e => e))
  have HOQ := Lib.hid (fun V (hV : But (fun _ => False) w V) => (hops.nw hb0).nw hV)
  have HPB := Lib.hid (fun h => parsed_put (zs := zs1) h)
  have HIB := Lib.hid (readRq_is (P := ⟨zs1, false⟩) hr1.2.1)
  have HBZ := Lib.hid hr1.2.1
  have HRSQ := Lib.hid (req_size.trans (show some 16 = some cq.size by rw [hsz]))
  have KFEW := Lib.hid (fun V ho => few_any q sv V ho hl)
  have KPUT := Lib.hid (fun V ho => cPut_any q hi sv V ho)
  have KAS := Lib.hid (fun V ho h => as_any q sv V ho h)
  have ke := code_eql
  have kn := code_neq
  rw [hrv] at KFEW KPUT KAS ⊢
  clear hone hcq hrv hsz hb0 hbq hw hr1 hr2 hops
  go_enter Try.func5, Try.ntmps5
  go_wp2_with fail
  try rw [← HW0.out]
  refine (up_any w).mono ?_
  rintro e w1 ⟨rfl, hb1⟩
  have HW1 := Lib.hid (show But (fun _ => False) w w1 from But.of_new hb1)
  have HQ1 := Lib.hid (show _ = _ from HQB.out w1 HW1.out)
  have HFW := Lib.hid (KFEW.out w1 (HOQ.out w1 HW1.out))
  clear hb1
  go_wp2_with (refine wpList_load_row rfl 32 _ rfl w00.heap.size rfl 32 _ (0, 0) _ HQ1.out Try.underlying32 rfl HRSQ.out ?_)
  refine HFW.out.mono ?_
  rintro e w2 ⟨r, rfl, hrf, hb2⟩
  have HW2 := Lib.hid (HW1.out.trans (But.of_new hb2) (fun _ _ e => e))
  have HF := Lib.hid (H00.out.trans (HW2.out.new.mono H00.out.size))
  have HRF := Lib.hid hrf
  clear hb2 hrf HFW HQ1 HW1
  cases r
  · go_wp2_with fail
    go_ret
    exact ⟨rfl, HF.out⟩
  by_cases k1 : 25000 < L1
  · have d1 : decide ((25000 : Int) < (L1 : Int)) = true := decide_eq_true (by omega)
    go_wp2_with fail
    go_ret
    exact ⟨rfl, HF.out⟩
  have d1 : decide ((25000 : Int) < (L1 : Int)) = false := decide_eq_false (by omega)
  by_cases k2 : 25000 < L2
  · have d2 : decide ((25000 : Int) < (L2 : Int)) = true := decide_eq_true (by omega)
    go_wp2_with fail
    go_ret
    exact ⟨rfl, HF.out⟩
  have d2 : decide ((25000 : Int) < (L2 : Int)) = false := decide_eq_false (by omega)
  have KB := Lib.hid (fun V hr => cparse_len a1 L1 cap1 zs1 V hr hn1 (by omega))
  have KD := Lib.hid (fun V hr => decode_len a2 L2 cap2 zs2 V hr hn2 (by omega))
  have HQ2 := Lib.hid (show _ = _ from HQB.out w2 HW2.out)
  have HPW := Lib.hid (KPUT.out w2 (HOQ.out w2 HW2.out))
  go_wp2_with (refine wpList_load_row rfl 32 _ rfl w00.heap.size rfl 32 _ (0, 0) _ HQ2.out Try.underlying32 rfl HRSQ.out ?_)
  refine HPW.out.mono ?_
  rintro e w3 ⟨hb3, ⟨hmay, vx, rfl, hox⟩ | ⟨hmay, rfl⟩⟩
  rotate_left
  · have HW3 := Lib.hid (HW2.out.trans (But.of_new hb3) (fun _ _ e => e))
    clear hb3 hmay HPW HQ2 d1 d2
    have hp := KB.out w3 (HRB.out w3 HW3.out)
    have HKP3 := Lib.hid hp
    clear hp
    go_wp2_with fail
    refine HKP3.out.mono ?_
    rintro e wb ⟨hbb, ⟨hg, svb, rfl, hob⟩ | ⟨hg, rfl⟩⟩
    · have h1b : But (fun _ => False) w wb := HW3.out.trans (But.of_new hbb) (fun _ _ e => e)
      have hmay := HPB.out hg
      have his := HIB.out
      obtain ⟨qb, hqb⟩ : ∃ q, q = readRq ⟨zs1, false⟩ := ⟨_, rfl⟩
      rw [← hqb] at hob hmay his ⊢
      have hone := rcells_one (q := qb) hob
      obtain ⟨cb, hcb⟩ : ∃ cs, cs = rcells qb svb := ⟨_, rfl⟩
      have hrv : rv qb svb = .agg cb := by rw [hcb]; rfl
      have hsz : cb.size = 16 := by rw [hcb]; rfl
      rw [← hcb] at hone
      have HNB := Lib.hid (Blk.new wb 32 #[.int .i64 0, .int .u64 0, .int .i64 0, .int .i64 0, .int .i64 0, .int .i64 0, .int .i64 0, .int .u32 0, .int .u32 0, .int .u64 0, .slice none 0 0, .string ⟨#[]⟩, .bool false, .int .i64 0, .int .i64 0, .int .u32 0])
      have hbx : Blk ((wb.alloc (.cells #[.int .i64 0, .int .u64 0, .int .i64 0, .int .i64 0, .int .i64 0, .int .i64 0, .int .i64 0, .int .u32 0, .int .u32 0, .int .u64 0, .slice none 0 0, .string ⟨#[]⟩, .bool false, .int .i64 0, .int .i64 0, .int .u32 0] 32)).setRow wb.heap.size cb) wb.heap.size 32 cb := HNB.out.row cb
      have hbX : But (fun _ => False) wb ((wb.alloc (.cells #[.int .i64 0, .int .u64 0, .int .i64 0, .int .i64 0, .int .i64 0, .int .i64 0, .int .i64 0, .int .u32 0, .int .u32 0, .int .u64 0, .slice none 0 0, .string ⟨#[]⟩, .bool false, .int .i64 0, .int .i64 0, .int .u32 0] 32)).setRow wb.heap.size cb) := but_two wb wb.heap.size #[.int .i64 0, .int .u64 0, .int .i64 0, .int .i64 0, .int .i64 0, .int .i64 0, .int .i64 0, .int .u32 0, .int .u32 0, .int .u64 0, .slice none 0 0, .string ⟨#[]⟩, .bool false, .int .i64 0, .int .i64 0, .int .u32 0] cb 32 rfl
      obtain ⟨WB, hWB⟩ : ∃ W, W = (wb.alloc (.cells #[.int .i64 0, .int .u64 0, .int .i64 0, .int .i64 0, .int .i64 0, .int .i64 0, .int .i64 0, .int .u32 0, .int .u32 0, .int .u64 0, .slice none 0 0, .string ⟨#[]⟩, .bool false, .int .i64 0, .int .i64 0, .int .u32 0] 32)).setRow wb.heap.size cb := ⟨_, rfl⟩
      rw [← hWB] at hbx hbX
      have HWB := Lib.hid hWB
      have HBXB := Lib.hid (show _ = _ from hbx)
      have HWBB := Lib.hid (h1b.trans hbX (fun _ _ e => e))
      have HPUTB := Lib.hid (cPut_any qb his svb WB (hob.nw hbX))
      have HMAYB := Lib.hid hmay
      have HONEB := Lib.hid hone
      have HRSB := Lib.hid (req_size.trans (show some 16 = some cb.size by rw [hsz]))
      have HSZB := Lib.hid hsz
      rw [hrv] at HPUTB ⊢
      clear h1b hone hcb hrv hsz hbx hbX hWB hob hmay his hg hbb HKP3 hqb
      go_wp2_with (first
        | (refine wpList_store_rowTo rfl 32 _ _ rfl rfl wb.heap.size cb rfl rfl 32 #[.int .i64 0, .int .u64 0, .int .i64 0, .int .i64 0, .int .i64 0, .int .i64 0, .int .i64 0, .int .u32 0, .int .u32 0, .int .u64 0, .slice none 0 0, .string ⟨#[]⟩, .bool false, .int .i64 0, .int .i64 0, .int .u32 0] HNB.out HRSB.out HSZB.out.symm HONEB.out ?_; rw [← HWB.out])
        | (refine wpList_load_row rfl 32 _ rfl wb.heap.size rfl 32 _ (0, 0) _ HBXB.out Try.underlying32 rfl HRSB.out ?_))
      refine HPUTB.out.mono ?_
      rintro e wy ⟨hby, ⟨-, vy, rfl, hoy⟩ | ⟨hny, -⟩⟩
      rotate_left
      · exact absurd HMAYB.out.1 hny
      rw [HMAYB.out.2] at hoy
      obtain ⟨ay, cy, rfl, hry, -, -⟩ := own_shape hoy HBZ.out
      have HWY := Lib.hid (HWBB.out.trans (But.of_new hby) (fun _ _ e => e))
      have ks1 := fun dst hd => run_string_row (P := Try.prog) hry 22 5 dst Try.underlying22 Try.underlying5 hd cy
      have ks2 := fun dst hd => run_string_row (P := Try.prog) (HRBW.out wy HWY.out) 22 5 dst Try.underlying22 Try.underlying5 hd cap1
      clear hby hoy hry HPUTB HMAYB
      go_wp2_with fail
      clear ks1 ks2
      have hd := KD.out wy (HRC.out wy HWY.out)
      have HKD := Lib.hid hd
      clear hd
      go_wp2_with fail
      refine HKD.out.mono ?_
      rintro e wd ⟨hbd, ⟨r, pv, bv, rfl, hso, hsp, hsb, henc⟩ | rfl⟩
      · have hd1 : But (fun _ => False) w wd := HWY.out.trans (But.of_new hbd) (fun _ _ e => e)
        have hone := scells_one hsp hsb
        obtain ⟨cr, hcr⟩ : ∃ cs, cs = scells r pv bv := ⟨_, rfl⟩
        have hrv : rsv r pv bv = .agg cr := by rw [hcr]; rfl
        have hsz : cr.size = 14 := by rw [hcr]; rfl
        rw [← hcr] at hone
        have HNR := Lib.hid (Blk.new wd 49 #[.int .i64 0, .int .i64 0, .int .u32 0, .int .u32 0, .int .u64 0, .int .u64 0, .string ⟨#[]⟩, .slice none 0 0, .bool false, .int .i64 0, .int .i64 0, .int .i64 0, .int .u64 0, .slice none 0 0])
        have hbx : Blk ((wd.alloc (.cells #[.int .i64 0, .int .i64 0, .int .u32 0, .int .u32 0, .int .u64 0, .int .u64 0, .string ⟨#[]⟩, .slice none 0 0, .bool false, .int .i64 0, .int .i64 0, .int .i64 0, .int .u64 0, .slice none 0 0] 49)).setRow wd.heap.size cr) wd.heap.size 49 cr := HNR.out.row cr
        have hbX : But (fun _ => False) wd ((wd.alloc (.cells #[.int .i64 0, .int .i64 0, .int .u32 0, .int .u32 0, .int .u64 0, .int .u64 0, .string ⟨#[]⟩, .slice none 0 0, .bool false, .int .i64 0, .int .i64 0, .int .i64 0, .int .u64 0, .slice none 0 0] 49)).setRow wd.heap.size cr) := but_two wd wd.heap.size #[.int .i64 0, .int .i64 0, .int .u32 0, .int .u32 0, .int .u64 0, .int .u64 0, .string ⟨#[]⟩, .slice none 0 0, .bool false, .int .i64 0, .int .i64 0, .int .i64 0, .int .u64 0, .slice none 0 0] cr 49 rfl
        obtain ⟨WR, hWR⟩ : ∃ W, W = (wd.alloc (.cells #[.int .i64 0, .int .i64 0, .int .u32 0, .int .u32 0, .int .u64 0, .int .u64 0, .string ⟨#[]⟩, .slice none 0 0, .bool false, .int .i64 0, .int .i64 0, .int .i64 0, .int .u64 0, .slice none 0 0] 49)).setRow wd.heap.size cr := ⟨_, rfl⟩
        rw [← hWR] at hbx hbX
        have HWR := Lib.hid hWR
        have HWRB := Lib.hid (hd1.trans hbX (fun _ _ e => e))
        have HCR := Lib.hid (fun V (hV : But (fun _ => False) WR V) => hbx.but hV (fun e => e))
        have HENC := Lib.hid (fun V (hV : But (fun _ => False) WR V) => enc_any r hso pv bv _ V ((hsp.new hbX).new hV) ((hsb.new hbX).new hV))
        have HEQ := Lib.hid henc
        have HONER := Lib.hid hone
        have HRSR := Lib.hid (resp_sz.trans (show some 14 = some cr.size by rw [hsz]))
        have HSZR := Lib.hid hsz
        have HBYR := Lib.hid (encOf_bytes r)
        rw [hrv] at HENC ⊢
        clear hd1 hone hcr hrv hsz hbx hbX hWR hso hsp hsb henc hbd HKD
        go_wp2_with (refine wpList_store_rowTo rfl 49 _ _ rfl rfl wd.heap.size cr rfl rfl 49 #[.int .i64 0, .int .i64 0, .int .u32 0, .int .u32 0, .int .u64 0, .int .u64 0, .string ⟨#[]⟩, .slice none 0 0, .bool false, .int .i64 0, .int .i64 0, .int .i64 0, .int .u64 0, .slice none 0 0] HNR.out HRSR.out HSZR.out.symm HONER.out ?_; rw [← HWR.out])
        refine Late.region_goes (fun V => But (fun _ => False) WR V) (fun j => j == 9) (by kernel_rfl) ?_ (fun hH => ?_)
        · exact (But.refl _ _).drew
        refine Late.Goes.takeT (i := 0) (v := ?_) (by simp only [List.getElem?_toArray, List.getElem?_cons_succ, List.getElem?_cons_zero]; rfl) (by kernel_rfl) (by kernel_rfl) (by kernel_rfl) (by kernel_rfl) (by kernel_rfl) (by exact fun _ _ _ h => h) (Or.inl ⟨by rfl, ?_⟩) hH ?_
        rotate_left
        · (intro wy hSw; (try dsimp only at hSw); have rc := HRCW.out wy (HWRB.out.trans hSw (fun _ _ e => e)); have kcv := run_string_row (P := Try.prog) rc 22 5 9 Try.underlying22 Try.underlying5 Try.underlying9 cap2; go_simp; try (with_reducible rfl))
        try simp only [Act.put, List.setIfInBounds_toArray, List.set_cons_zero, List.set_cons_succ]
        refine Late.Goes.takeT (i := 1) (v := ?_) (by simp only [List.getElem?_toArray, List.getElem?_cons_succ, List.getElem?_cons_zero]; rfl) (by kernel_rfl) (by kernel_rfl) (by kernel_rfl) (by kernel_rfl) (by kernel_rfl) (by exact fun _ _ _ h => h) (Or.inl ⟨by rfl, ?_⟩) hH ?_
        rotate_left
        · (intro wy hSw; (try dsimp only at hSw); have rc := HRCW.out wy (HWRB.out.trans hSw (fun _ _ e => e)); have kcv := run_string_row (P := Try.prog) rc 22 5 9 Try.underlying22 Try.underlying5 Try.underlying9 cap2; go_simp; try (with_reducible rfl))
        try simp only [Act.put, List.setIfInBounds_toArray, List.set_cons_zero, List.set_cons_succ]
        refine Late.Goes.takeT (i := 2) (v := _) (by simp only [List.getElem?_toArray, List.getElem?_cons_succ, List.getElem?_cons_zero]; rfl) (by kernel_rfl) (by kernel_rfl) (by kernel_rfl) (by kernel_rfl) (by kernel_rfl) (by exact fun _ _ _ h => h) (yields_row (by rfl) 49 _ rfl wd.heap.size rfl cr _ (by rfl) Try.underlying49 HRSR.out (fun V hV => HCR.out V hV)) hH ?_
        try simp only [Act.put, List.setIfInBounds_toArray, List.set_cons_zero, List.set_cons_succ]
        refine Late.Goes.takeT (i := 5) (v := ?_) (by simp only [List.getElem?_toArray, List.getElem?_cons_succ, List.getElem?_cons_zero]; rfl) (by kernel_rfl) (by kernel_rfl) (by kernel_rfl) (by kernel_rfl) (by kernel_rfl) (by exact fun _ _ _ h => h) (Or.inl ⟨by rfl, ?_⟩) hH ?_
        rotate_left
        · (intro wy hSw; (try dsimp only at hSw); have rc := HRCW.out wy (HWRB.out.trans hSw (fun _ _ e => e)); have kcv := run_string_row (P := Try.prog) rc 22 5 9 Try.underlying22 Try.underlying5 Try.underlying9 cap2; go_simp; try (with_reducible rfl))
        try simp only [Act.put, List.setIfInBounds_toArray, List.set_cons_zero, List.set_cons_succ]
        refine Late.Goes.takeT (i := 6) (v := ?_) (by simp only [List.getElem?_toArray, List.getElem?_cons_succ, List.getElem?_cons_zero]; rfl) (by kernel_rfl) (by kernel_rfl) (by kernel_rfl) (by kernel_rfl) (by kernel_rfl) (by exact fun _ _ _ h => h) (Or.inl ⟨by rfl, ?_⟩) hH ?_
        rotate_left
        · (intro wy hSw; (try dsimp only at hSw); have rc := HRCW.out wy (HWRB.out.trans hSw (fun _ _ e => e)); have kcv := run_string_row (P := Try.prog) rc 22 5 9 Try.underlying22 Try.underlying5 Try.underlying9 cap2; go_simp; try (with_reducible rfl))
        try simp only [Act.put, List.setIfInBounds_toArray, List.set_cons_zero, List.set_cons_succ]
        have HVd := Lib.hid hH
        refine Late.Goes.one (i := 3) (by kernel_rfl) (by simp only [List.getElem?_toArray, List.getElem?_cons_succ, List.getElem?_cons_zero]; rfl) (fun K hK => ?_)
        clear hH
        go_simp
        go_at_call 15
        refine (HENC.out _ HVd.out).mono ?_
        rintro e we ⟨v, rfl, hown, hbe⟩
        obtain ⟨ae, ce, rfl, hre, -, -⟩ := own_shape hown HBYR.out
        have HVe := Lib.hid (HVd.out.trans (But.of_new hbe) (fun _ _ e => e))
        have HRE := Lib.hid (fun V (hV : But (fun _ => False) we V) => run_string_row (P := Try.prog) (hre.but hV (fun _ _ _ e => e)) 22 5 9 Try.underlying22 Try.underlying5 Try.underlying9 ce)
        clear hown hre hbe
        refine hK.out _ _ ?_ (fun hH => ?_)
        · exact fun _ => HVe.out
        clear hK K
        have hH := hH rfl
        try simp only [Act.put, List.setIfInBounds_toArray, List.set_cons_zero, List.set_cons_succ]
        have kx := HRE.out _ (But.refl _ _)
        have HSQ := Lib.hid (show ((strOfNums (encOf r)).toList == (strOfNums zs2).toList) = true by rw [HEQ.out]; simp)
        have hsq := HSQ.out
        refine Late.Goes.one (i := 4) (by kernel_rfl) (by simp only [List.getElem?_toArray, List.getElem?_cons_succ, List.getElem?_cons_zero]; rfl) (fun K hK => ?_)
        clear hH
        go_simp
        refine hK.out _ _ ?_ (fun hH => ?_)
        · exact fun _ => HVe.out
        clear hK K
        have hH := hH rfl
        try simp only [Act.put, List.setIfInBounds_toArray, List.set_cons_zero, List.set_cons_succ]
        refine Late.Goes.takeT (i := 7) (v := ?_) (by simp only [List.getElem?_toArray, List.getElem?_cons_succ, List.getElem?_cons_zero]; rfl) (by kernel_rfl) (by kernel_rfl) (by kernel_rfl) (by kernel_rfl) (by kernel_rfl) (by exact fun _ _ _ h => h) (Or.inl ⟨by rfl, ?_⟩) hH ?_
        rotate_left
        · (intro wy hSw; (try dsimp only at hSw); have rc := HRCW.out wy (HWRB.out.trans hSw (fun _ _ e => e)); have kcv := run_string_row (P := Try.prog) rc 22 5 9 Try.underlying22 Try.underlying5 Try.underlying9 cap2; go_simp; try (with_reducible rfl))
        try simp only [Act.put, List.setIfInBounds_toArray, List.set_cons_zero, List.set_cons_succ]
        refine Late.Goes.takeT (i := 8) (v := ?_) (by simp only [List.getElem?_toArray, List.getElem?_cons_succ, List.getElem?_cons_zero]; rfl) (by kernel_rfl) (by kernel_rfl) (by kernel_rfl) (by kernel_rfl) (by kernel_rfl) (by exact fun _ _ _ h => h) (Or.inl ⟨by rfl, ?_⟩) hH ?_
        rotate_left
        · (intro wy hSw; (try dsimp only at hSw); have rc := HRCW.out wy (HWRB.out.trans hSw (fun _ _ e => e)); have kcv := run_string_row (P := Try.prog) rc 22 5 9 Try.underlying22 Try.underlying5 Try.underlying9 cap2; go_simp; try (with_reducible rfl))
        try simp only [Act.put, List.setIfInBounds_toArray, List.set_cons_zero, List.set_cons_succ]
        refine Late.Goes.one (i := 9) (by kernel_rfl) (by simp only [List.getElem?_toArray, List.getElem?_cons_succ, List.getElem?_cons_zero]; rfl) (fun K hK => ?_)
        clear hH
        go_simp
        refine hK.out _ _ ?_ (fun _ => ?_)
        · exact fun h => by cases h
        clear hK K
        try simp only [Act.put, List.setIfInBounds_toArray, List.set_cons_zero, List.set_cons_succ]
        refine Late.Goes.done (by kernel_rfl) ?_ _
        have HF := Lib.hid ((HWRB.out.trans HVe.out (fun _ _ e => e)).new)
        go_wp2_with fail
        go_ret
        exact ⟨rfl, H00.out.trans (HF.out.mono H00.out.size)⟩
      · have HF := Lib.hid ((HWY.out.trans (But.of_new hbd) (fun _ _ e => e)).new.alloc (HWY.out.trans (But.of_new hbd) (fun _ _ e => e)).size (.cells #[.int .i64 0, .int .i64 0, .int .u32 0, .int .u32 0, .int .u64 0, .int .u64 0, .string ⟨#[]⟩, .slice none 0 0, .bool false, .int .i64 0, .int .i64 0, .int .i64 0, .int .u64 0, .slice none 0 0] 49))
        clear hbd HKD
        unfold zresp
        go_wp2_with fail
        go_ret
        exact ⟨rfl, H00.out.trans (HF.out.mono H00.out.size)⟩
    · have HWN := Lib.hid ((HW3.out.trans (But.of_new hbb) (fun _ _ e => e)).alloc (.cells #[.int .i64 0, .int .u64 0, .int .i64 0, .int .i64 0, .int .i64 0, .int .i64 0, .int .i64 0, .int .u32 0, .int .u32 0, .int .u64 0, .slice none 0 0, .string ⟨#[]⟩, .bool false, .int .i64 0, .int .i64 0, .int .u32 0] 32))
      clear hbb HKP3 hg
      rw [rzero_rv]
      unfold rzero
      go_wp2_with fail
      have hd := KD.out (wb.alloc (.cells #[.int .i64 0, .int .u64 0, .int .i64 0, .int .i64 0, .int .i64 0, .int .i64 0, .int .i64 0, .int .u32 0, .int .u32 0, .int .u64 0, .slice none 0 0, .string ⟨#[]⟩, .bool false, .int .i64 0, .int .i64 0, .int .u32 0] 32)) (HRC.out (wb.alloc (.cells #[.int .i64 0, .int .u64 0, .int .i64 0, .int .i64 0, .int .i64 0, .int .i64 0, .int .i64 0, .int .u32 0, .int .u32 0, .int .u64 0, .slice none 0 0, .string ⟨#[]⟩, .bool false, .int .i64 0, .int .i64 0, .int .u32 0] 32)) HWN.out)
      have HKD := Lib.hid hd
      clear hd
      go_wp2_with fail
      refine HKD.out.mono ?_
      rintro e wd ⟨hbd, ⟨r, pv, bv, rfl, hso, hsp, hsb, henc⟩ | rfl⟩
      · have hd1 : But (fun _ => False) w wd := HWN.out.trans (But.of_new hbd) (fun _ _ e => e)
        have hone := scells_one hsp hsb
        obtain ⟨cr, hcr⟩ : ∃ cs, cs = scells r pv bv := ⟨_, rfl⟩
        have hrv : rsv r pv bv = .agg cr := by rw [hcr]; rfl
        have hsz : cr.size = 14 := by rw [hcr]; rfl
        rw [← hcr] at hone
        have HNR := Lib.hid (Blk.new wd 49 #[.int .i64 0, .int .i64 0, .int .u32 0, .int .u32 0, .int .u64 0, .int .u64 0, .string ⟨#[]⟩, .slice none 0 0, .bool false, .int .i64 0, .int .i64 0, .int .i64 0, .int .u64 0, .slice none 0 0])
        have hbx : Blk ((wd.alloc (.cells #[.int .i64 0, .int .i64 0, .int .u32 0, .int .u32 0, .int .u64 0, .int .u64 0, .string ⟨#[]⟩, .slice none 0 0, .bool false, .int .i64 0, .int .i64 0, .int .i64 0, .int .u64 0, .slice none 0 0] 49)).setRow wd.heap.size cr) wd.heap.size 49 cr := HNR.out.row cr
        have hbX : But (fun _ => False) wd ((wd.alloc (.cells #[.int .i64 0, .int .i64 0, .int .u32 0, .int .u32 0, .int .u64 0, .int .u64 0, .string ⟨#[]⟩, .slice none 0 0, .bool false, .int .i64 0, .int .i64 0, .int .i64 0, .int .u64 0, .slice none 0 0] 49)).setRow wd.heap.size cr) := but_two wd wd.heap.size #[.int .i64 0, .int .i64 0, .int .u32 0, .int .u32 0, .int .u64 0, .int .u64 0, .string ⟨#[]⟩, .slice none 0 0, .bool false, .int .i64 0, .int .i64 0, .int .i64 0, .int .u64 0, .slice none 0 0] cr 49 rfl
        obtain ⟨WR, hWR⟩ : ∃ W, W = (wd.alloc (.cells #[.int .i64 0, .int .i64 0, .int .u32 0, .int .u32 0, .int .u64 0, .int .u64 0, .string ⟨#[]⟩, .slice none 0 0, .bool false, .int .i64 0, .int .i64 0, .int .i64 0, .int .u64 0, .slice none 0 0] 49)).setRow wd.heap.size cr := ⟨_, rfl⟩
        rw [← hWR] at hbx hbX
        have HWR := Lib.hid hWR
        have HWRB := Lib.hid (hd1.trans hbX (fun _ _ e => e))
        have HCR := Lib.hid (fun V (hV : But (fun _ => False) WR V) => hbx.but hV (fun e => e))
        have HENC := Lib.hid (fun V (hV : But (fun _ => False) WR V) => enc_any r hso pv bv _ V ((hsp.new hbX).new hV) ((hsb.new hbX).new hV))
        have HEQ := Lib.hid henc
        have HONER := Lib.hid hone
        have HRSR := Lib.hid (resp_sz.trans (show some 14 = some cr.size by rw [hsz]))
        have HSZR := Lib.hid hsz
        have HBYR := Lib.hid (encOf_bytes r)
        rw [hrv] at HENC ⊢
        clear hd1 hone hcr hrv hsz hbx hbX hWR hso hsp hsb henc hbd HKD
        go_wp2_with (refine wpList_store_rowTo rfl 49 _ _ rfl rfl wd.heap.size cr rfl rfl 49 #[.int .i64 0, .int .i64 0, .int .u32 0, .int .u32 0, .int .u64 0, .int .u64 0, .string ⟨#[]⟩, .slice none 0 0, .bool false, .int .i64 0, .int .i64 0, .int .i64 0, .int .u64 0, .slice none 0 0] HNR.out HRSR.out HSZR.out.symm HONER.out ?_; rw [← HWR.out])
        refine Late.region_goes (fun V => But (fun _ => False) WR V) (fun j => j == 9) (by kernel_rfl) ?_ (fun hH => ?_)
        · exact (But.refl _ _).drew
        refine Late.Goes.takeT (i := 0) (v := ?_) (by simp only [List.getElem?_toArray, List.getElem?_cons_succ, List.getElem?_cons_zero]; rfl) (by kernel_rfl) (by kernel_rfl) (by kernel_rfl) (by kernel_rfl) (by kernel_rfl) (by exact fun _ _ _ h => h) (Or.inl ⟨by rfl, ?_⟩) hH ?_
        rotate_left
        · (intro wy hSw; (try dsimp only at hSw); have rc := HRCW.out wy (HWRB.out.trans hSw (fun _ _ e => e)); have kcv := run_string_row (P := Try.prog) rc 22 5 9 Try.underlying22 Try.underlying5 Try.underlying9 cap2; go_simp; try (with_reducible rfl))
        try simp only [Act.put, List.setIfInBounds_toArray, List.set_cons_zero, List.set_cons_succ]
        refine Late.Goes.takeT (i := 1) (v := ?_) (by simp only [List.getElem?_toArray, List.getElem?_cons_succ, List.getElem?_cons_zero]; rfl) (by kernel_rfl) (by kernel_rfl) (by kernel_rfl) (by kernel_rfl) (by kernel_rfl) (by exact fun _ _ _ h => h) (Or.inl ⟨by rfl, ?_⟩) hH ?_
        rotate_left
        · (intro wy hSw; (try dsimp only at hSw); have rc := HRCW.out wy (HWRB.out.trans hSw (fun _ _ e => e)); have kcv := run_string_row (P := Try.prog) rc 22 5 9 Try.underlying22 Try.underlying5 Try.underlying9 cap2; go_simp; try (with_reducible rfl))
        try simp only [Act.put, List.setIfInBounds_toArray, List.set_cons_zero, List.set_cons_succ]
        refine Late.Goes.takeT (i := 2) (v := _) (by simp only [List.getElem?_toArray, List.getElem?_cons_succ, List.getElem?_cons_zero]; rfl) (by kernel_rfl) (by kernel_rfl) (by kernel_rfl) (by kernel_rfl) (by kernel_rfl) (by exact fun _ _ _ h => h) (yields_row (by rfl) 49 _ rfl wd.heap.size rfl cr _ (by rfl) Try.underlying49 HRSR.out (fun V hV => HCR.out V hV)) hH ?_
        try simp only [Act.put, List.setIfInBounds_toArray, List.set_cons_zero, List.set_cons_succ]
        refine Late.Goes.takeT (i := 5) (v := ?_) (by simp only [List.getElem?_toArray, List.getElem?_cons_succ, List.getElem?_cons_zero]; rfl) (by kernel_rfl) (by kernel_rfl) (by kernel_rfl) (by kernel_rfl) (by kernel_rfl) (by exact fun _ _ _ h => h) (Or.inl ⟨by rfl, ?_⟩) hH ?_
        rotate_left
        · (intro wy hSw; (try dsimp only at hSw); have rc := HRCW.out wy (HWRB.out.trans hSw (fun _ _ e => e)); have kcv := run_string_row (P := Try.prog) rc 22 5 9 Try.underlying22 Try.underlying5 Try.underlying9 cap2; go_simp; try (with_reducible rfl))
        try simp only [Act.put, List.setIfInBounds_toArray, List.set_cons_zero, List.set_cons_succ]
        refine Late.Goes.takeT (i := 6) (v := ?_) (by simp only [List.getElem?_toArray, List.getElem?_cons_succ, List.getElem?_cons_zero]; rfl) (by kernel_rfl) (by kernel_rfl) (by kernel_rfl) (by kernel_rfl) (by kernel_rfl) (by exact fun _ _ _ h => h) (Or.inl ⟨by rfl, ?_⟩) hH ?_
        rotate_left
        · (intro wy hSw; (try dsimp only at hSw); have rc := HRCW.out wy (HWRB.out.trans hSw (fun _ _ e => e)); have kcv := run_string_row (P := Try.prog) rc 22 5 9 Try.underlying22 Try.underlying5 Try.underlying9 cap2; go_simp; try (with_reducible rfl))
        try simp only [Act.put, List.setIfInBounds_toArray, List.set_cons_zero, List.set_cons_succ]
        have HVd := Lib.hid hH
        refine Late.Goes.one (i := 3) (by kernel_rfl) (by simp only [List.getElem?_toArray, List.getElem?_cons_succ, List.getElem?_cons_zero]; rfl) (fun K hK => ?_)
        clear hH
        go_simp
        go_at_call 15
        refine (HENC.out _ HVd.out).mono ?_
        rintro e we ⟨v, rfl, hown, hbe⟩
        obtain ⟨ae, ce, rfl, hre, -, -⟩ := own_shape hown HBYR.out
        have HVe := Lib.hid (HVd.out.trans (But.of_new hbe) (fun _ _ e => e))
        have HRE := Lib.hid (fun V (hV : But (fun _ => False) we V) => run_string_row (P := Try.prog) (hre.but hV (fun _ _ _ e => e)) 22 5 9 Try.underlying22 Try.underlying5 Try.underlying9 ce)
        clear hown hre hbe
        refine hK.out _ _ ?_ (fun hH => ?_)
        · exact fun _ => HVe.out
        clear hK K
        have hH := hH rfl
        try simp only [Act.put, List.setIfInBounds_toArray, List.set_cons_zero, List.set_cons_succ]
        have kx := HRE.out _ (But.refl _ _)
        have HSQ := Lib.hid (show ((strOfNums (encOf r)).toList == (strOfNums zs2).toList) = true by rw [HEQ.out]; simp)
        have hsq := HSQ.out
        refine Late.Goes.one (i := 4) (by kernel_rfl) (by simp only [List.getElem?_toArray, List.getElem?_cons_succ, List.getElem?_cons_zero]; rfl) (fun K hK => ?_)
        clear hH
        go_simp
        refine hK.out _ _ ?_ (fun hH => ?_)
        · exact fun _ => HVe.out
        clear hK K
        have hH := hH rfl
        try simp only [Act.put, List.setIfInBounds_toArray, List.set_cons_zero, List.set_cons_succ]
        refine Late.Goes.takeT (i := 7) (v := ?_) (by simp only [List.getElem?_toArray, List.getElem?_cons_succ, List.getElem?_cons_zero]; rfl) (by kernel_rfl) (by kernel_rfl) (by kernel_rfl) (by kernel_rfl) (by kernel_rfl) (by exact fun _ _ _ h => h) (Or.inl ⟨by rfl, ?_⟩) hH ?_
        rotate_left
        · (intro wy hSw; (try dsimp only at hSw); have rc := HRCW.out wy (HWRB.out.trans hSw (fun _ _ e => e)); have kcv := run_string_row (P := Try.prog) rc 22 5 9 Try.underlying22 Try.underlying5 Try.underlying9 cap2; go_simp; try (with_reducible rfl))
        try simp only [Act.put, List.setIfInBounds_toArray, List.set_cons_zero, List.set_cons_succ]
        refine Late.Goes.takeT (i := 8) (v := ?_) (by simp only [List.getElem?_toArray, List.getElem?_cons_succ, List.getElem?_cons_zero]; rfl) (by kernel_rfl) (by kernel_rfl) (by kernel_rfl) (by kernel_rfl) (by kernel_rfl) (by exact fun _ _ _ h => h) (Or.inl ⟨by rfl, ?_⟩) hH ?_
        rotate_left
        · (intro wy hSw; (try dsimp only at hSw); have rc := HRCW.out wy (HWRB.out.trans hSw (fun _ _ e => e)); have kcv := run_string_row (P := Try.prog) rc 22 5 9 Try.underlying22 Try.underlying5 Try.underlying9 cap2; go_simp; try (with_reducible rfl))
        try simp only [Act.put, List.setIfInBounds_toArray, List.set_cons_zero, List.set_cons_succ]
        refine Late.Goes.one (i := 9) (by kernel_rfl) (by simp only [List.getElem?_toArray, List.getElem?_cons_succ, List.getElem?_cons_zero]; rfl) (fun K hK => ?_)
        clear hH
        go_simp
        refine hK.out _ _ ?_ (fun _ => ?_)
        · exact fun h => by cases h
        clear hK K
        try simp only [Act.put, List.setIfInBounds_toArray, List.set_cons_zero, List.set_cons_succ]
        refine Late.Goes.done (by kernel_rfl) ?_ _
        have HF := Lib.hid ((HWRB.out.trans HVe.out (fun _ _ e => e)).new)
        go_wp2_with fail
        go_ret
        exact ⟨rfl, H00.out.trans (HF.out.mono H00.out.size)⟩
      · have HF := Lib.hid ((HWN.out.trans (But.of_new hbd) (fun _ _ e => e)).new.alloc (HWN.out.trans (But.of_new hbd) (fun _ _ e => e)).size (.cells #[.int .i64 0, .int .i64 0, .int .u32 0, .int .u32 0, .int .u64 0, .int .u64 0, .string ⟨#[]⟩, .slice none 0 0, .bool false, .int .i64 0, .int .i64 0, .int .i64 0, .int .u64 0, .slice none 0 0] 49))
        clear hbd HKD
        unfold zresp
        go_wp2_with fail
        go_ret
        exact ⟨rfl, H00.out.trans (HF.out.mono H00.out.size)⟩
  obtain ⟨ax, cx, rfl, hrx, -, hax⟩ := own_shape hox (bytesOf_bytes q)
  obtain ⟨n, hn⟩ : ∃ n, n = (bytesOf q).length := ⟨_, rfl⟩
  have hnle : n ≤ 20000 := by rw [hn]; exact bytesOf_le hmay.1
  have hnilx : ax = none → cx = 0 := fun e => by
    rcases hax with h | ⟨g, h, _⟩
    · exact h.2.1
    · rw [e] at h; cases h
  rw [← hn] at hrx ⊢
  have hfew := (lim_ops hmay.1).1
  obtain ⟨hp1, hp2, hp3⟩ := put_parsed hmay
  have HW3 := Lib.hid (HW2.out.trans (But.of_new hb3) (fun _ _ e => e))
  have HXS := Lib.hid (fun V (hV : But (fun _ => False) w3 V) => (hrx.but hV (fun _ _ _ e => e)).sees hnilx)
  have HKP1 := Lib.hid (cparse_len ax n cx (bytesOf q) w3 hrx hnilx (by omega))
  have HFEW := Lib.hid hfew
  have HP2 := Lib.hid (And.intro hp1 (And.intro hp2 hp3))
  have HB8 := Lib.hid (bytes_append (bytesOf_bytes q) (show Bytes [0] from fun z hz => by rw [List.mem_singleton.1 hz]; omega))
  have HLX := Lib.hid (show (bytesOf q ++ [(0 : Int)]).length = n + 1 by rw [List.length_append, ← hn]; rfl)
  clear hox hax hn hnilx hrx hfew hp1 hp2 hp3 hb3 hmay HPW HQ2 d1 d2
  go_wp2_with fail
  refine HKP1.out.mono ?_
  rintro e w4 ⟨hb4, ⟨-, svp, rfl, hop⟩ | ⟨hg, -⟩⟩
  rotate_left
  · rw [HP2.out.1] at hg; cases hg
  rw [HP2.out.2.1] at hop ⊢
  have h34 : But (fun _ => False) w3 w4 := But.of_new hb4
  have hone := rcells_one (q := q) hop
  obtain ⟨cp, hcp⟩ : ∃ cs, cs = rcells q svp := ⟨_, rfl⟩
  have hrv : rv q svp = .agg cp := by rw [hcp]; rfl
  have hsz : cp.size = 16 := by rw [hcp]; rfl
  rw [← hcp] at hone
  have HNP := Lib.hid (Blk.new w4 32 #[.int .i64 0, .int .u64 0, .int .i64 0, .int .i64 0, .int .i64 0, .int .i64 0, .int .i64 0, .int .u32 0, .int .u32 0, .int .u64 0, .slice none 0 0, .string ⟨#[]⟩, .bool false, .int .i64 0, .int .i64 0, .int .u32 0])
  have hbx : Blk ((w4.alloc (.cells #[.int .i64 0, .int .u64 0, .int .i64 0, .int .i64 0, .int .i64 0, .int .i64 0, .int .i64 0, .int .u32 0, .int .u32 0, .int .u64 0, .slice none 0 0, .string ⟨#[]⟩, .bool false, .int .i64 0, .int .i64 0, .int .u32 0] 32)).setRow w4.heap.size cp) w4.heap.size 32 cp := HNP.out.row cp
  have hbX : But (fun _ => False) w4 ((w4.alloc (.cells #[.int .i64 0, .int .u64 0, .int .i64 0, .int .i64 0, .int .i64 0, .int .i64 0, .int .i64 0, .int .u32 0, .int .u32 0, .int .u64 0, .slice none 0 0, .string ⟨#[]⟩, .bool false, .int .i64 0, .int .i64 0, .int .u32 0] 32)).setRow w4.heap.size cp) := but_two w4 w4.heap.size #[.int .i64 0, .int .u64 0, .int .i64 0, .int .i64 0, .int .i64 0, .int .i64 0, .int .i64 0, .int .u32 0, .int .u32 0, .int .u64 0, .slice none 0 0, .string ⟨#[]⟩, .bool false, .int .i64 0, .int .i64 0, .int .u32 0] cp 32 rfl
  obtain ⟨WP, hWP⟩ : ∃ W, W = (w4.alloc (.cells #[.int .i64 0, .int .u64 0, .int .i64 0, .int .i64 0, .int .i64 0, .int .i64 0, .int .i64 0, .int .u32 0, .int .u32 0, .int .u64 0, .slice none 0 0, .string ⟨#[]⟩, .bool false, .int .i64 0, .int .i64 0, .int .u32 0] 32)).setRow w4.heap.size cp := ⟨_, rfl⟩
  rw [← hWP] at hbx hbX
  have HWP := Lib.hid hWP
  have HW4 := Lib.hid (h34.trans hbX (fun _ _ e => e))
  have HCP := Lib.hid (fun V (hV : But (fun _ => False) WP V) => hbx.but hV (fun e => e))
  have HOP := Lib.hid (fun V (hV : But (fun _ => False) WP V) => (hop.nw hbX).nw hV)
  have KASP := Lib.hid (fun V ho => as_any q svp V ho (by have := HFEW.out; omega))
  have HONEP := Lib.hid hone
  have HRSP := Lib.hid (req_size.trans (show some 16 = some cp.size by rw [hsz]))
  have HSZP := Lib.hid hsz
  rw [hrv] at KASP ⊢
  clear h34 hone hcp hrv hsz hbx hbX hWP hop hb4 HKP1
  have hbE : But (fun _ => False) WP (WP.alloc (.cells #[] 5)) := (But.refl _ WP).alloc _
  have HSE := Lib.hid (HXS.out _ (HW4.out.trans hbE (fun _ _ e => e)))
  clear hbE
  go_wp2_with (first
    | (refine wpList_store_rowTo rfl 32 _ _ rfl rfl w4.heap.size cp rfl rfl 32 #[.int .i64 0, .int .u64 0, .int .i64 0, .int .i64 0, .int .i64 0, .int .i64 0, .int .i64 0, .int .u32 0, .int .u32 0, .int .u64 0, .slice none 0 0, .string ⟨#[]⟩, .bool false, .int .i64 0, .int .i64 0, .int .u32 0] HNP.out HRSP.out HSZP.out.symm HONEP.out ?_; rw [← HWP.out])
    | (at_builtin; refine wpList_append_onto rfl (.tmp 48) (.tmp 49) _ rfl WP.heap.size 5 i0 _ 1 1 Try.underlying22 hi0 hz0 hz1 hz2 rfl (by omega) (.slice (some ⟨WP.heap.size, 0, none⟩) 0 0) 0 (cellsOf []) rfl (made8 WP) (.slice ax n cx) n (cellsOf (bytesOf q)) rfl HSE.out (cellsOf_one _) (by simp only [maxLen]; omega) (by omega) (by simp) ?_; intro v5 w5 ho5 hon5)
    | (at_builtin; refine wpList_append_onto rfl (.tmp 50) (.tmp 51) _ rfl WP.heap.size 5 i0 _ 1 1 Try.underlying22 hi0 hz0 hz1 hz2 rfl (by omega) v5 (0 + n) (cellsOf [] ++ cellsOf (bytesOf q)) rfl (ownsRow_alloc ho5 _) (.slice (some ⟨w5.heap.size, 0, none⟩) 1 1) 1 [.int .u8 0] rfl (sees_one w5 _ _ _) (by simp [Value.oneCell']) (by simp only [maxLen]; omega) (by omega) (by have := hon5.grown.size; simp at this ⊢; omega) ?_; intro v6 w6 ho6 hon6; have hrow : cellsOf [] ++ cellsOf (bytesOf q) ++ [Value.int .u8 0] = cellsOf (bytesOf q ++ [0]) := (by simp [cellsOf]); rw [hrow, Nat.zero_add] at ho6; obtain ⟨a6, c6, hv6, hr6, -, ha6⟩ := own_shape ho6 HB8.out; subst hv6))
  have hE1 : But (fun _ => False) WP w5 := ((But.refl (fun _ => False) WP).alloc (.cells #[] 5)).trans hon5.but (fun j hj e => by have h := ((made8 WP).lt j e.symm).1; omega)
  have hE2 : But (fun _ => False) WP w6 := (hE1.alloc (.cells #[.int .u8 0] 5)).trans hon6.but (fun j hj e => by have h := ((ownsRow_alloc ho5 (.cells #[.int .u8 0] 5)).lt j e.symm).1; omega)
  have hnil6 : a6 = none → c6 = 0 := fun e => by
    rcases ha6 with h | ⟨g, h, _⟩
    · exact h.2.1
    · rw [e] at h; cases h
  have HKP2 := Lib.hid (cparse_len a6 (n + 1) c6 (bytesOf q ++ [0]) w6 hr6 hnil6 (by omega))
  have HE2 := Lib.hid hE2
  clear hE1 hE2 hnil6 ho5 hon5 ho6 hon6 hrow hr6 ha6 HSE HXS
  refine HKP2.out.mono ?_
  rintro e w7 ⟨hb7, ⟨hg, -⟩ | ⟨-, rfl⟩⟩
  · rw [HP2.out.2.2] at hg; cases hg
  have h8 : But (fun _ => False) w7 (w7.alloc (.cells #[.int .i64 0, .int .u64 0, .int .i64 0, .int .i64 0, .int .i64 0, .int .i64 0, .int .i64 0, .int .u32 0, .int .u32 0, .int .u64 0, .slice none 0 0, .string ⟨#[]⟩, .bool false, .int .i64 0, .int .i64 0, .int .u32 0] 32)) := (But.refl _ w7).alloc _
  have HW8 := Lib.hid ((HE2.out.trans (But.of_new hb7) (fun _ _ e => e)).trans h8 (fun _ _ e => e))
  have HWW8 := Lib.hid ((HW3.out.trans HW4.out (fun _ _ e => e)).trans HW8.out (fun _ _ e => e))
  clear hb7 h8 HKP2 HE2
  rw [rzero_rv]
  unfold rzero
  go_wp2_with fail
  refine Late.region_goes (fun V => But (fun _ => False) (w7.alloc (.cells #[.int .i64 0, .int .u64 0, .int .i64 0, .int .i64 0, .int .i64 0, .int .i64 0, .int .i64 0, .int .u32 0, .int .u32 0, .int .u64 0, .slice none 0 0, .string ⟨#[]⟩, .bool false, .int .i64 0, .int .i64 0, .int .u32 0] 32)) V) (fun _ => false) (by kernel_rfl) ?_ (fun hH => ?_)
  · exact (But.refl _ _).drew
  refine Late.Goes.takeT (i := 0) (v := ?_) (by simp only [List.getElem?_toArray, List.getElem?_cons_succ, List.getElem?_cons_zero]; rfl) (by kernel_rfl) (by kernel_rfl) (by kernel_rfl) (by kernel_rfl) (by kernel_rfl) (by exact fun _ _ _ h => h) (Or.inl ⟨by rfl, ?_⟩) hH ?_
  rotate_left
  · (intro wy hSw; (try dsimp only at hSw); go_simp; try (with_reducible rfl))
  try simp only [Act.put, List.setIfInBounds_toArray, List.set_cons_zero, List.set_cons_succ]
  refine Late.Goes.takeT (i := 1) (v := ?_) (by simp only [List.getElem?_toArray, List.getElem?_cons_succ, List.getElem?_cons_zero]; rfl) (by kernel_rfl) (by kernel_rfl) (by kernel_rfl) (by kernel_rfl) (by kernel_rfl) (by exact fun _ _ _ h => h) (Or.inl ⟨by rfl, ?_⟩) hH ?_
  rotate_left
  · (intro wy hSw; (try dsimp only at hSw); go_simp; try (with_reducible rfl))
  try simp only [Act.put, List.setIfInBounds_toArray, List.set_cons_zero, List.set_cons_succ]
  refine Late.Goes.takeT (i := 2) (v := ?_) (by simp only [List.getElem?_toArray, List.getElem?_cons_succ, List.getElem?_cons_zero]; rfl) (by kernel_rfl) (by kernel_rfl) (by kernel_rfl) (by kernel_rfl) (by kernel_rfl) (by exact fun _ _ _ h => h) (Or.inl ⟨by rfl, ?_⟩) hH ?_
  rotate_left
  · (intro wy hSw; (try dsimp only at hSw); go_simp; try (with_reducible rfl))
  try simp only [Act.put, List.setIfInBounds_toArray, List.set_cons_zero, List.set_cons_succ]
  refine Late.Goes.takeT (i := 3) (v := ?_) (by simp only [List.getElem?_toArray, List.getElem?_cons_succ, List.getElem?_cons_zero]; rfl) (by kernel_rfl) (by kernel_rfl) (by kernel_rfl) (by kernel_rfl) (by kernel_rfl) (by exact fun _ _ _ h => h) (Or.inl ⟨by rfl, ?_⟩) hH ?_
  rotate_left
  · (intro wy hSw; (try dsimp only at hSw); go_simp; try (with_reducible rfl))
  try simp only [Act.put, List.setIfInBounds_toArray, List.set_cons_zero, List.set_cons_succ]
  refine Late.Goes.takeT (i := 4) (v := ?_) (by simp only [List.getElem?_toArray, List.getElem?_cons_succ, List.getElem?_cons_zero]; rfl) (by kernel_rfl) (by kernel_rfl) (by kernel_rfl) (by kernel_rfl) (by kernel_rfl) (by exact fun _ _ _ h => h) (Or.inl ⟨by rfl, ?_⟩) hH ?_
  rotate_left
  · (intro wy hSw; (try dsimp only at hSw); go_simp; try (with_reducible rfl))
  try simp only [Act.put, List.setIfInBounds_toArray, List.set_cons_zero, List.set_cons_succ]
  refine Late.Goes.takeT (i := 5) (v := ?_) (by simp only [List.getElem?_toArray, List.getElem?_cons_succ, List.getElem?_cons_zero]; rfl) (by kernel_rfl) (by kernel_rfl) (by kernel_rfl) (by kernel_rfl) (by kernel_rfl) (by exact fun _ _ _ h => h) (Or.inl ⟨by rfl, ?_⟩) hH ?_
  rotate_left
  · (intro wy hSw; (try dsimp only at hSw); go_simp; try (with_reducible rfl))
  try simp only [Act.put, List.setIfInBounds_toArray, List.set_cons_zero, List.set_cons_succ]
  refine Late.Goes.takeT (i := 6) (v := ?_) (by simp only [List.getElem?_toArray, List.getElem?_cons_succ, List.getElem?_cons_zero]; rfl) (by kernel_rfl) (by kernel_rfl) (by kernel_rfl) (by kernel_rfl) (by kernel_rfl) (by exact fun _ _ _ h => h) (Or.inl ⟨by rfl, ?_⟩) hH ?_
  rotate_left
  · (intro wy hSw; (try dsimp only at hSw); go_simp; try (with_reducible rfl))
  try simp only [Act.put, List.setIfInBounds_toArray, List.set_cons_zero, List.set_cons_succ]
  refine Late.Goes.takeT (i := 7) (v := ?_) (by simp only [List.getElem?_toArray, List.getElem?_cons_succ, List.getElem?_cons_zero]; rfl) (by kernel_rfl) (by kernel_rfl) (by kernel_rfl) (by kernel_rfl) (by kernel_rfl) (by exact fun _ _ _ h => h) (Or.inl ⟨by rfl, ?_⟩) hH ?_
  rotate_left
  · (intro wy hSw; (try dsimp only at hSw); go_simp; try (with_reducible rfl))
  try simp only [Act.put, List.setIfInBounds_toArray, List.set_cons_zero, List.set_cons_succ]
  refine Late.Goes.takeT (i := 8) (v := _) (by simp only [List.getElem?_toArray, List.getElem?_cons_succ, List.getElem?_cons_zero]; rfl) (by kernel_rfl) (by kernel_rfl) (by kernel_rfl) (by kernel_rfl) (by kernel_rfl) (by exact fun _ _ _ h => h) (yields_row (by rfl) 32 _ rfl w4.heap.size rfl cp _ (by rfl) Try.underlying32 HRSP.out (fun V hV => HCP.out V (HW8.out.trans hV (fun _ _ e => e)))) hH ?_
  try simp only [Act.put, List.setIfInBounds_toArray, List.set_cons_zero, List.set_cons_succ]
  refine Late.Goes.takeT (i := 10) (v := _) (by simp only [List.getElem?_toArray, List.getElem?_cons_succ, List.getElem?_cons_zero]; rfl) (by kernel_rfl) (by kernel_rfl) (by kernel_rfl) (by kernel_rfl) (by kernel_rfl) (by exact fun _ _ _ h => h) (yields_row (by rfl) 32 _ rfl w00.heap.size rfl cq _ (by rfl) Try.underlying32 HRSQ.out (fun V hV => HQB.out V (HWW8.out.trans hV (fun _ _ e => e)))) hH ?_
  try simp only [Act.put, List.setIfInBounds_toArray, List.set_cons_zero, List.set_cons_succ]
  have HV0 := Lib.hid hH
  refine Late.Goes.one (i := 9) (by kernel_rfl) (by simp only [List.getElem?_toArray, List.getElem?_cons_succ, List.getElem?_cons_zero]; rfl) (fun K hK => ?_)
  clear hH
  go_simp
  go_at_call 11
  refine (KASP.out _ (HOP.out _ (HW8.out.trans HV0.out (fun _ _ e => e)))).mono ?_
  rintro e w9 ⟨sv9, rfl, ho9, hb9⟩
  have HV9 := Lib.hid (HV0.out.trans hb9 (fun _ _ e => e))
  have HO9 := Lib.hid ho9
  clear hb9 ho9
  refine hK.out _ _ ?_ (fun hH => ?_)
  · exact fun _ => HV9.out
  clear hK K
  have hH := hH rfl
  try simp only [Act.put, List.setIfInBounds_toArray, List.set_cons_zero, List.set_cons_succ]
  refine Late.Goes.one (i := 11) (by kernel_rfl) (by simp only [List.getElem?_toArray, List.getElem?_cons_succ, List.getElem?_cons_zero]; rfl) (fun K hK => ?_)
  clear hH
  go_simp
  go_at_call 11
  refine (KAS.out _ (HOQ.out _ (HWW8.out.trans HV9.out (fun _ _ e => e))) (by have := HFEW.out; omega)).mono ?_
  rintro e wA ⟨svA, rfl, hoA, hbA⟩
  have HVA := Lib.hid (HV9.out.trans hbA (fun _ _ e => e))
  have HOA := Lib.hid (And.intro (HO9.out.nw hbA) hoA)
  clear hbA hoA
  refine hK.out _ _ ?_ (fun hH => ?_)
  · exact fun _ => HVA.out
  clear hK K
  have hH := hH rfl
  try simp only [Act.put, List.setIfInBounds_toArray, List.set_cons_zero, List.set_cons_succ]
  refine Late.Goes.one (i := 12) (by kernel_rfl) (by simp only [List.getElem?_toArray, List.getElem?_cons_succ, List.getElem?_cons_zero]; rfl) (fun K hK => ?_)
  clear hH
  go_simp
  go_at_call 10
  refine (rsame_any q q sv9 svA _ HOA.out.1 HOA.out.2 (by have := HFEW.out; omega) (by have := HFEW.out; omega)).mono ?_
  rintro e wS ⟨r, rfl, hri, hbS⟩
  have hrt : r = true := hri.2 rfl
  subst hrt
  have HVS := Lib.hid (HVA.out.trans hbS (fun _ _ e => e))
  clear hbS hri
  refine hK.out _ _ ?_ (fun hH => ?_)
  · exact fun _ => HVS.out
  clear hK K
  have hH := hH rfl
  try simp only [Act.put, List.setIfInBounds_toArray, List.set_cons_zero, List.set_cons_succ]
  refine Late.Goes.takeT (i := 13) (v := ?_) (by simp only [List.getElem?_toArray, List.getElem?_cons_succ, List.getElem?_cons_zero]; rfl) (by kernel_rfl) (by kernel_rfl) (by kernel_rfl) (by kernel_rfl) (by kernel_rfl) (by exact fun _ _ _ h => h) (Or.inl ⟨by rfl, ?_⟩) hH ?_
  rotate_left
  · (intro wy hSw; (try dsimp only at hSw); go_simp; try (with_reducible rfl))
  try simp only [Act.put, List.setIfInBounds_toArray, List.set_cons_zero, List.set_cons_succ]
  refine Late.Goes.takeT (i := 14) (v := ?_) (by simp only [List.getElem?_toArray, List.getElem?_cons_succ, List.getElem?_cons_zero]; rfl) (by kernel_rfl) (by kernel_rfl) (by kernel_rfl) (by kernel_rfl) (by kernel_rfl) (by exact fun _ _ _ h => h) (Or.inl ⟨by rfl, ?_⟩) hH ?_
  rotate_left
  · (intro wy hSw; (try dsimp only at hSw); go_simp; try (with_reducible rfl))
  try simp only [Act.put, List.setIfInBounds_toArray, List.set_cons_zero, List.set_cons_succ]
  refine Late.Goes.done (by kernel_rfl) ?_ _
  have HWS := Lib.hid (HWW8.out.trans HVS.out (fun _ _ e => e))
  clear hH
  have hp := KB.out wS (HRB.out wS HWS.out)
  have HKPS := Lib.hid hp
  clear hp
  go_wp2_with fail
  refine HKPS.out.mono ?_
  rintro e wb ⟨hbb, ⟨hg, svb, rfl, hob⟩ | ⟨hg, rfl⟩⟩
  · have h1b : But (fun _ => False) w wb := HWS.out.trans (But.of_new hbb) (fun _ _ e => e)
    have hmay := HPB.out hg
    have his := HIB.out
    obtain ⟨qb, hqb⟩ : ∃ q, q = readRq ⟨zs1, false⟩ := ⟨_, rfl⟩
    rw [← hqb] at hob hmay his ⊢
    have hone := rcells_one (q := qb) hob
    obtain ⟨cb, hcb⟩ : ∃ cs, cs = rcells qb svb := ⟨_, rfl⟩
    have hrv : rv qb svb = .agg cb := by rw [hcb]; rfl
    have hsz : cb.size = 16 := by rw [hcb]; rfl
    rw [← hcb] at hone
    have HNB := Lib.hid (Blk.new wb 32 #[.int .i64 0, .int .u64 0, .int .i64 0, .int .i64 0, .int .i64 0, .int .i64 0, .int .i64 0, .int .u32 0, .int .u32 0, .int .u64 0, .slice none 0 0, .string ⟨#[]⟩, .bool false, .int .i64 0, .int .i64 0, .int .u32 0])
    have hbx : Blk ((wb.alloc (.cells #[.int .i64 0, .int .u64 0, .int .i64 0, .int .i64 0, .int .i64 0, .int .i64 0, .int .i64 0, .int .u32 0, .int .u32 0, .int .u64 0, .slice none 0 0, .string ⟨#[]⟩, .bool false, .int .i64 0, .int .i64 0, .int .u32 0] 32)).setRow wb.heap.size cb) wb.heap.size 32 cb := HNB.out.row cb
    have hbX : But (fun _ => False) wb ((wb.alloc (.cells #[.int .i64 0, .int .u64 0, .int .i64 0, .int .i64 0, .int .i64 0, .int .i64 0, .int .i64 0, .int .u32 0, .int .u32 0, .int .u64 0, .slice none 0 0, .string ⟨#[]⟩, .bool false, .int .i64 0, .int .i64 0, .int .u32 0] 32)).setRow wb.heap.size cb) := but_two wb wb.heap.size #[.int .i64 0, .int .u64 0, .int .i64 0, .int .i64 0, .int .i64 0, .int .i64 0, .int .i64 0, .int .u32 0, .int .u32 0, .int .u64 0, .slice none 0 0, .string ⟨#[]⟩, .bool false, .int .i64 0, .int .i64 0, .int .u32 0] cb 32 rfl
    obtain ⟨WB, hWB⟩ : ∃ W, W = (wb.alloc (.cells #[.int .i64 0, .int .u64 0, .int .i64 0, .int .i64 0, .int .i64 0, .int .i64 0, .int .i64 0, .int .u32 0, .int .u32 0, .int .u64 0, .slice none 0 0, .string ⟨#[]⟩, .bool false, .int .i64 0, .int .i64 0, .int .u32 0] 32)).setRow wb.heap.size cb := ⟨_, rfl⟩
    rw [← hWB] at hbx hbX
    have HWB := Lib.hid hWB
    have HBXB := Lib.hid (show _ = _ from hbx)
    have HWBB := Lib.hid (h1b.trans hbX (fun _ _ e => e))
    have HPUTB := Lib.hid (cPut_any qb his svb WB (hob.nw hbX))
    have HMAYB := Lib.hid hmay
    have HONEB := Lib.hid hone
    have HRSB := Lib.hid (req_size.trans (show some 16 = some cb.size by rw [hsz]))
    have HSZB := Lib.hid hsz
    rw [hrv] at HPUTB ⊢
    clear h1b hone hcb hrv hsz hbx hbX hWB hob hmay his hg hbb HKPS hqb
    go_wp2_with (first
      | (refine wpList_store_rowTo rfl 32 _ _ rfl rfl wb.heap.size cb rfl rfl 32 #[.int .i64 0, .int .u64 0, .int .i64 0, .int .i64 0, .int .i64 0, .int .i64 0, .int .i64 0, .int .u32 0, .int .u32 0, .int .u64 0, .slice none 0 0, .string ⟨#[]⟩, .bool false, .int .i64 0, .int .i64 0, .int .u32 0] HNB.out HRSB.out HSZB.out.symm HONEB.out ?_; rw [← HWB.out])
      | (refine wpList_load_row rfl 32 _ rfl wb.heap.size rfl 32 _ (0, 0) _ HBXB.out Try.underlying32 rfl HRSB.out ?_))
    refine HPUTB.out.mono ?_
    rintro e wy ⟨hby, ⟨-, vy, rfl, hoy⟩ | ⟨hny, -⟩⟩
    rotate_left
    · exact absurd HMAYB.out.1 hny
    rw [HMAYB.out.2] at hoy
    obtain ⟨ay, cy, rfl, hry, -, -⟩ := own_shape hoy HBZ.out
    have HWY := Lib.hid (HWBB.out.trans (But.of_new hby) (fun _ _ e => e))
    have ks1 := fun dst hd => run_string_row (P := Try.prog) hry 22 5 dst Try.underlying22 Try.underlying5 hd cy
    have ks2 := fun dst hd => run_string_row (P := Try.prog) (HRBW.out wy HWY.out) 22 5 dst Try.underlying22 Try.underlying5 hd cap1
    clear hby hoy hry HPUTB HMAYB
    go_wp2_with fail
    clear ks1 ks2
    have hd := KD.out wy (HRC.out wy HWY.out)
    have HKD := Lib.hid hd
    clear hd
    go_wp2_with fail
    refine HKD.out.mono ?_
    rintro e wd ⟨hbd, ⟨r, pv, bv, rfl, hso, hsp, hsb, henc⟩ | rfl⟩
    · have hd1 : But (fun _ => False) w wd := HWY.out.trans (But.of_new hbd) (fun _ _ e => e)
      have hone := scells_one hsp hsb
      obtain ⟨cr, hcr⟩ : ∃ cs, cs = scells r pv bv := ⟨_, rfl⟩
      have hrv : rsv r pv bv = .agg cr := by rw [hcr]; rfl
      have hsz : cr.size = 14 := by rw [hcr]; rfl
      rw [← hcr] at hone
      have HNR := Lib.hid (Blk.new wd 49 #[.int .i64 0, .int .i64 0, .int .u32 0, .int .u32 0, .int .u64 0, .int .u64 0, .string ⟨#[]⟩, .slice none 0 0, .bool false, .int .i64 0, .int .i64 0, .int .i64 0, .int .u64 0, .slice none 0 0])
      have hbx : Blk ((wd.alloc (.cells #[.int .i64 0, .int .i64 0, .int .u32 0, .int .u32 0, .int .u64 0, .int .u64 0, .string ⟨#[]⟩, .slice none 0 0, .bool false, .int .i64 0, .int .i64 0, .int .i64 0, .int .u64 0, .slice none 0 0] 49)).setRow wd.heap.size cr) wd.heap.size 49 cr := HNR.out.row cr
      have hbX : But (fun _ => False) wd ((wd.alloc (.cells #[.int .i64 0, .int .i64 0, .int .u32 0, .int .u32 0, .int .u64 0, .int .u64 0, .string ⟨#[]⟩, .slice none 0 0, .bool false, .int .i64 0, .int .i64 0, .int .i64 0, .int .u64 0, .slice none 0 0] 49)).setRow wd.heap.size cr) := but_two wd wd.heap.size #[.int .i64 0, .int .i64 0, .int .u32 0, .int .u32 0, .int .u64 0, .int .u64 0, .string ⟨#[]⟩, .slice none 0 0, .bool false, .int .i64 0, .int .i64 0, .int .i64 0, .int .u64 0, .slice none 0 0] cr 49 rfl
      obtain ⟨WR, hWR⟩ : ∃ W, W = (wd.alloc (.cells #[.int .i64 0, .int .i64 0, .int .u32 0, .int .u32 0, .int .u64 0, .int .u64 0, .string ⟨#[]⟩, .slice none 0 0, .bool false, .int .i64 0, .int .i64 0, .int .i64 0, .int .u64 0, .slice none 0 0] 49)).setRow wd.heap.size cr := ⟨_, rfl⟩
      rw [← hWR] at hbx hbX
      have HWR := Lib.hid hWR
      have HWRB := Lib.hid (hd1.trans hbX (fun _ _ e => e))
      have HCR := Lib.hid (fun V (hV : But (fun _ => False) WR V) => hbx.but hV (fun e => e))
      have HENC := Lib.hid (fun V (hV : But (fun _ => False) WR V) => enc_any r hso pv bv _ V ((hsp.new hbX).new hV) ((hsb.new hbX).new hV))
      have HEQ := Lib.hid henc
      have HONER := Lib.hid hone
      have HRSR := Lib.hid (resp_sz.trans (show some 14 = some cr.size by rw [hsz]))
      have HSZR := Lib.hid hsz
      have HBYR := Lib.hid (encOf_bytes r)
      rw [hrv] at HENC ⊢
      clear hd1 hone hcr hrv hsz hbx hbX hWR hso hsp hsb henc hbd HKD
      go_wp2_with (refine wpList_store_rowTo rfl 49 _ _ rfl rfl wd.heap.size cr rfl rfl 49 #[.int .i64 0, .int .i64 0, .int .u32 0, .int .u32 0, .int .u64 0, .int .u64 0, .string ⟨#[]⟩, .slice none 0 0, .bool false, .int .i64 0, .int .i64 0, .int .i64 0, .int .u64 0, .slice none 0 0] HNR.out HRSR.out HSZR.out.symm HONER.out ?_; rw [← HWR.out])
      refine Late.region_goes (fun V => But (fun _ => False) WR V) (fun j => j == 9) (by kernel_rfl) ?_ (fun hH => ?_)
      · exact (But.refl _ _).drew
      refine Late.Goes.takeT (i := 0) (v := ?_) (by simp only [List.getElem?_toArray, List.getElem?_cons_succ, List.getElem?_cons_zero]; rfl) (by kernel_rfl) (by kernel_rfl) (by kernel_rfl) (by kernel_rfl) (by kernel_rfl) (by exact fun _ _ _ h => h) (Or.inl ⟨by rfl, ?_⟩) hH ?_
      rotate_left
      · (intro wy hSw; (try dsimp only at hSw); have rc := HRCW.out wy (HWRB.out.trans hSw (fun _ _ e => e)); have kcv := run_string_row (P := Try.prog) rc 22 5 9 Try.underlying22 Try.underlying5 Try.underlying9 cap2; go_simp; try (with_reducible rfl))
      try simp only [Act.put, List.setIfInBounds_toArray, List.set_cons_zero, List.set_cons_succ]
      refine Late.Goes.takeT (i := 1) (v := ?_) (by simp only [List.getElem?_toArray, List.getElem?_cons_succ, List.getElem?_cons_zero]; rfl) (by kernel_rfl) (by kernel_rfl) (by kernel_rfl) (by kernel_rfl) (by kernel_rfl) (by exact fun _ _ _ h => h) (Or.inl ⟨by rfl, ?_⟩) hH ?_
      rotate_left
      · (intro wy hSw; (try dsimp only at hSw); have rc := HRCW.out wy (HWRB.out.trans hSw (fun _ _ e => e)); have kcv := run_string_row (P := Try.prog) rc 22 5 9 Try.underlying22 Try.underlying5 Try.underlying9 cap2; go_simp; try (with_reducible rfl))
      try simp only [Act.put, List.setIfInBounds_toArray, List.set_cons_zero, List.set_cons_succ]
      refine Late.Goes.takeT (i := 2) (v := _) (by simp only [List.getElem?_toArray, List.getElem?_cons_succ, List.getElem?_cons_zero]; rfl) (by kernel_rfl) (by kernel_rfl) (by kernel_rfl) (by kernel_rfl) (by kernel_rfl) (by exact fun _ _ _ h => h) (yields_row (by rfl) 49 _ rfl wd.heap.size rfl cr _ (by rfl) Try.underlying49 HRSR.out (fun V hV => HCR.out V hV)) hH ?_
      try simp only [Act.put, List.setIfInBounds_toArray, List.set_cons_zero, List.set_cons_succ]
      refine Late.Goes.takeT (i := 5) (v := ?_) (by simp only [List.getElem?_toArray, List.getElem?_cons_succ, List.getElem?_cons_zero]; rfl) (by kernel_rfl) (by kernel_rfl) (by kernel_rfl) (by kernel_rfl) (by kernel_rfl) (by exact fun _ _ _ h => h) (Or.inl ⟨by rfl, ?_⟩) hH ?_
      rotate_left
      · (intro wy hSw; (try dsimp only at hSw); have rc := HRCW.out wy (HWRB.out.trans hSw (fun _ _ e => e)); have kcv := run_string_row (P := Try.prog) rc 22 5 9 Try.underlying22 Try.underlying5 Try.underlying9 cap2; go_simp; try (with_reducible rfl))
      try simp only [Act.put, List.setIfInBounds_toArray, List.set_cons_zero, List.set_cons_succ]
      refine Late.Goes.takeT (i := 6) (v := ?_) (by simp only [List.getElem?_toArray, List.getElem?_cons_succ, List.getElem?_cons_zero]; rfl) (by kernel_rfl) (by kernel_rfl) (by kernel_rfl) (by kernel_rfl) (by kernel_rfl) (by exact fun _ _ _ h => h) (Or.inl ⟨by rfl, ?_⟩) hH ?_
      rotate_left
      · (intro wy hSw; (try dsimp only at hSw); have rc := HRCW.out wy (HWRB.out.trans hSw (fun _ _ e => e)); have kcv := run_string_row (P := Try.prog) rc 22 5 9 Try.underlying22 Try.underlying5 Try.underlying9 cap2; go_simp; try (with_reducible rfl))
      try simp only [Act.put, List.setIfInBounds_toArray, List.set_cons_zero, List.set_cons_succ]
      have HVd := Lib.hid hH
      refine Late.Goes.one (i := 3) (by kernel_rfl) (by simp only [List.getElem?_toArray, List.getElem?_cons_succ, List.getElem?_cons_zero]; rfl) (fun K hK => ?_)
      clear hH
      go_simp
      go_at_call 15
      refine (HENC.out _ HVd.out).mono ?_
      rintro e we ⟨v, rfl, hown, hbe⟩
      obtain ⟨ae, ce, rfl, hre, -, -⟩ := own_shape hown HBYR.out
      have HVe := Lib.hid (HVd.out.trans (But.of_new hbe) (fun _ _ e => e))
      have HRE := Lib.hid (fun V (hV : But (fun _ => False) we V) => run_string_row (P := Try.prog) (hre.but hV (fun _ _ _ e => e)) 22 5 9 Try.underlying22 Try.underlying5 Try.underlying9 ce)
      clear hown hre hbe
      refine hK.out _ _ ?_ (fun hH => ?_)
      · exact fun _ => HVe.out
      clear hK K
      have hH := hH rfl
      try simp only [Act.put, List.setIfInBounds_toArray, List.set_cons_zero, List.set_cons_succ]
      have kx := HRE.out _ (But.refl _ _)
      have HSQ := Lib.hid (show ((strOfNums (encOf r)).toList == (strOfNums zs2).toList) = true by rw [HEQ.out]; simp)
      have hsq := HSQ.out
      refine Late.Goes.one (i := 4) (by kernel_rfl) (by simp only [List.getElem?_toArray, List.getElem?_cons_succ, List.getElem?_cons_zero]; rfl) (fun K hK => ?_)
      clear hH
      go_simp
      refine hK.out _ _ ?_ (fun hH => ?_)
      · exact fun _ => HVe.out
      clear hK K
      have hH := hH rfl
      try simp only [Act.put, List.setIfInBounds_toArray, List.set_cons_zero, List.set_cons_succ]
      refine Late.Goes.takeT (i := 7) (v := ?_) (by simp only [List.getElem?_toArray, List.getElem?_cons_succ, List.getElem?_cons_zero]; rfl) (by kernel_rfl) (by kernel_rfl) (by kernel_rfl) (by kernel_rfl) (by kernel_rfl) (by exact fun _ _ _ h => h) (Or.inl ⟨by rfl, ?_⟩) hH ?_
      rotate_left
      · (intro wy hSw; (try dsimp only at hSw); have rc := HRCW.out wy (HWRB.out.trans hSw (fun _ _ e => e)); have kcv := run_string_row (P := Try.prog) rc 22 5 9 Try.underlying22 Try.underlying5 Try.underlying9 cap2; go_simp; try (with_reducible rfl))
      try simp only [Act.put, List.setIfInBounds_toArray, List.set_cons_zero, List.set_cons_succ]
      refine Late.Goes.takeT (i := 8) (v := ?_) (by simp only [List.getElem?_toArray, List.getElem?_cons_succ, List.getElem?_cons_zero]; rfl) (by kernel_rfl) (by kernel_rfl) (by kernel_rfl) (by kernel_rfl) (by kernel_rfl) (by exact fun _ _ _ h => h) (Or.inl ⟨by rfl, ?_⟩) hH ?_
      rotate_left
      · (intro wy hSw; (try dsimp only at hSw); have rc := HRCW.out wy (HWRB.out.trans hSw (fun _ _ e => e)); have kcv := run_string_row (P := Try.prog) rc 22 5 9 Try.underlying22 Try.underlying5 Try.underlying9 cap2; go_simp; try (with_reducible rfl))
      try simp only [Act.put, List.setIfInBounds_toArray, List.set_cons_zero, List.set_cons_succ]
      refine Late.Goes.one (i := 9) (by kernel_rfl) (by simp only [List.getElem?_toArray, List.getElem?_cons_succ, List.getElem?_cons_zero]; rfl) (fun K hK => ?_)
      clear hH
      go_simp
      refine hK.out _ _ ?_ (fun _ => ?_)
      · exact fun h => by cases h
      clear hK K
      try simp only [Act.put, List.setIfInBounds_toArray, List.set_cons_zero, List.set_cons_succ]
      refine Late.Goes.done (by kernel_rfl) ?_ _
      have HF := Lib.hid ((HWRB.out.trans HVe.out (fun _ _ e => e)).new)
      go_wp2_with fail
      go_ret
      exact ⟨rfl, H00.out.trans (HF.out.mono H00.out.size)⟩
    · have HF := Lib.hid ((HWY.out.trans (But.of_new hbd) (fun _ _ e => e)).new.alloc (HWY.out.trans (But.of_new hbd) (fun _ _ e => e)).size (.cells #[.int .i64 0, .int .i64 0, .int .u32 0, .int .u32 0, .int .u64 0, .int .u64 0, .string ⟨#[]⟩, .slice none 0 0, .bool false, .int .i64 0, .int .i64 0, .int .i64 0, .int .u64 0, .slice none 0 0] 49))
      clear hbd HKD
      unfold zresp
      go_wp2_with fail
      go_ret
      exact ⟨rfl, H00.out.trans (HF.out.mono H00.out.size)⟩
  · have HWN := Lib.hid ((HWS.out.trans (But.of_new hbb) (fun _ _ e => e)).alloc (.cells #[.int .i64 0, .int .u64 0, .int .i64 0, .int .i64 0, .int .i64 0, .int .i64 0, .int .i64 0, .int .u32 0, .int .u32 0, .int .u64 0, .slice none 0 0, .string ⟨#[]⟩, .bool false, .int .i64 0, .int .i64 0, .int .u32 0] 32))
    clear hbb HKPS hg
    rw [rzero_rv]
    unfold rzero
    go_wp2_with fail
    have hd := KD.out (wb.alloc (.cells #[.int .i64 0, .int .u64 0, .int .i64 0, .int .i64 0, .int .i64 0, .int .i64 0, .int .i64 0, .int .u32 0, .int .u32 0, .int .u64 0, .slice none 0 0, .string ⟨#[]⟩, .bool false, .int .i64 0, .int .i64 0, .int .u32 0] 32)) (HRC.out (wb.alloc (.cells #[.int .i64 0, .int .u64 0, .int .i64 0, .int .i64 0, .int .i64 0, .int .i64 0, .int .i64 0, .int .u32 0, .int .u32 0, .int .u64 0, .slice none 0 0, .string ⟨#[]⟩, .bool false, .int .i64 0, .int .i64 0, .int .u32 0] 32)) HWN.out)
    have HKD := Lib.hid hd
    clear hd
    go_wp2_with fail
    refine HKD.out.mono ?_
    rintro e wd ⟨hbd, ⟨r, pv, bv, rfl, hso, hsp, hsb, henc⟩ | rfl⟩
    · have hd1 : But (fun _ => False) w wd := HWN.out.trans (But.of_new hbd) (fun _ _ e => e)
      have hone := scells_one hsp hsb
      obtain ⟨cr, hcr⟩ : ∃ cs, cs = scells r pv bv := ⟨_, rfl⟩
      have hrv : rsv r pv bv = .agg cr := by rw [hcr]; rfl
      have hsz : cr.size = 14 := by rw [hcr]; rfl
      rw [← hcr] at hone
      have HNR := Lib.hid (Blk.new wd 49 #[.int .i64 0, .int .i64 0, .int .u32 0, .int .u32 0, .int .u64 0, .int .u64 0, .string ⟨#[]⟩, .slice none 0 0, .bool false, .int .i64 0, .int .i64 0, .int .i64 0, .int .u64 0, .slice none 0 0])
      have hbx : Blk ((wd.alloc (.cells #[.int .i64 0, .int .i64 0, .int .u32 0, .int .u32 0, .int .u64 0, .int .u64 0, .string ⟨#[]⟩, .slice none 0 0, .bool false, .int .i64 0, .int .i64 0, .int .i64 0, .int .u64 0, .slice none 0 0] 49)).setRow wd.heap.size cr) wd.heap.size 49 cr := HNR.out.row cr
      have hbX : But (fun _ => False) wd ((wd.alloc (.cells #[.int .i64 0, .int .i64 0, .int .u32 0, .int .u32 0, .int .u64 0, .int .u64 0, .string ⟨#[]⟩, .slice none 0 0, .bool false, .int .i64 0, .int .i64 0, .int .i64 0, .int .u64 0, .slice none 0 0] 49)).setRow wd.heap.size cr) := but_two wd wd.heap.size #[.int .i64 0, .int .i64 0, .int .u32 0, .int .u32 0, .int .u64 0, .int .u64 0, .string ⟨#[]⟩, .slice none 0 0, .bool false, .int .i64 0, .int .i64 0, .int .i64 0, .int .u64 0, .slice none 0 0] cr 49 rfl
      obtain ⟨WR, hWR⟩ : ∃ W, W = (wd.alloc (.cells #[.int .i64 0, .int .i64 0, .int .u32 0, .int .u32 0, .int .u64 0, .int .u64 0, .string ⟨#[]⟩, .slice none 0 0, .bool false, .int .i64 0, .int .i64 0, .int .i64 0, .int .u64 0, .slice none 0 0] 49)).setRow wd.heap.size cr := ⟨_, rfl⟩
      rw [← hWR] at hbx hbX
      have HWR := Lib.hid hWR
      have HWRB := Lib.hid (hd1.trans hbX (fun _ _ e => e))
      have HCR := Lib.hid (fun V (hV : But (fun _ => False) WR V) => hbx.but hV (fun e => e))
      have HENC := Lib.hid (fun V (hV : But (fun _ => False) WR V) => enc_any r hso pv bv _ V ((hsp.new hbX).new hV) ((hsb.new hbX).new hV))
      have HEQ := Lib.hid henc
      have HONER := Lib.hid hone
      have HRSR := Lib.hid (resp_sz.trans (show some 14 = some cr.size by rw [hsz]))
      have HSZR := Lib.hid hsz
      have HBYR := Lib.hid (encOf_bytes r)
      rw [hrv] at HENC ⊢
      clear hd1 hone hcr hrv hsz hbx hbX hWR hso hsp hsb henc hbd HKD
      go_wp2_with (refine wpList_store_rowTo rfl 49 _ _ rfl rfl wd.heap.size cr rfl rfl 49 #[.int .i64 0, .int .i64 0, .int .u32 0, .int .u32 0, .int .u64 0, .int .u64 0, .string ⟨#[]⟩, .slice none 0 0, .bool false, .int .i64 0, .int .i64 0, .int .i64 0, .int .u64 0, .slice none 0 0] HNR.out HRSR.out HSZR.out.symm HONER.out ?_; rw [← HWR.out])
      refine Late.region_goes (fun V => But (fun _ => False) WR V) (fun j => j == 9) (by kernel_rfl) ?_ (fun hH => ?_)
      · exact (But.refl _ _).drew
      refine Late.Goes.takeT (i := 0) (v := ?_) (by simp only [List.getElem?_toArray, List.getElem?_cons_succ, List.getElem?_cons_zero]; rfl) (by kernel_rfl) (by kernel_rfl) (by kernel_rfl) (by kernel_rfl) (by kernel_rfl) (by exact fun _ _ _ h => h) (Or.inl ⟨by rfl, ?_⟩) hH ?_
      rotate_left
      · (intro wy hSw; (try dsimp only at hSw); have rc := HRCW.out wy (HWRB.out.trans hSw (fun _ _ e => e)); have kcv := run_string_row (P := Try.prog) rc 22 5 9 Try.underlying22 Try.underlying5 Try.underlying9 cap2; go_simp; try (with_reducible rfl))
      try simp only [Act.put, List.setIfInBounds_toArray, List.set_cons_zero, List.set_cons_succ]
      refine Late.Goes.takeT (i := 1) (v := ?_) (by simp only [List.getElem?_toArray, List.getElem?_cons_succ, List.getElem?_cons_zero]; rfl) (by kernel_rfl) (by kernel_rfl) (by kernel_rfl) (by kernel_rfl) (by kernel_rfl) (by exact fun _ _ _ h => h) (Or.inl ⟨by rfl, ?_⟩) hH ?_
      rotate_left
      · (intro wy hSw; (try dsimp only at hSw); have rc := HRCW.out wy (HWRB.out.trans hSw (fun _ _ e => e)); have kcv := run_string_row (P := Try.prog) rc 22 5 9 Try.underlying22 Try.underlying5 Try.underlying9 cap2; go_simp; try (with_reducible rfl))
      try simp only [Act.put, List.setIfInBounds_toArray, List.set_cons_zero, List.set_cons_succ]
      refine Late.Goes.takeT (i := 2) (v := _) (by simp only [List.getElem?_toArray, List.getElem?_cons_succ, List.getElem?_cons_zero]; rfl) (by kernel_rfl) (by kernel_rfl) (by kernel_rfl) (by kernel_rfl) (by kernel_rfl) (by exact fun _ _ _ h => h) (yields_row (by rfl) 49 _ rfl wd.heap.size rfl cr _ (by rfl) Try.underlying49 HRSR.out (fun V hV => HCR.out V hV)) hH ?_
      try simp only [Act.put, List.setIfInBounds_toArray, List.set_cons_zero, List.set_cons_succ]
      refine Late.Goes.takeT (i := 5) (v := ?_) (by simp only [List.getElem?_toArray, List.getElem?_cons_succ, List.getElem?_cons_zero]; rfl) (by kernel_rfl) (by kernel_rfl) (by kernel_rfl) (by kernel_rfl) (by kernel_rfl) (by exact fun _ _ _ h => h) (Or.inl ⟨by rfl, ?_⟩) hH ?_
      rotate_left
      · (intro wy hSw; (try dsimp only at hSw); have rc := HRCW.out wy (HWRB.out.trans hSw (fun _ _ e => e)); have kcv := run_string_row (P := Try.prog) rc 22 5 9 Try.underlying22 Try.underlying5 Try.underlying9 cap2; go_simp; try (with_reducible rfl))
      try simp only [Act.put, List.setIfInBounds_toArray, List.set_cons_zero, List.set_cons_succ]
      refine Late.Goes.takeT (i := 6) (v := ?_) (by simp only [List.getElem?_toArray, List.getElem?_cons_succ, List.getElem?_cons_zero]; rfl) (by kernel_rfl) (by kernel_rfl) (by kernel_rfl) (by kernel_rfl) (by kernel_rfl) (by exact fun _ _ _ h => h) (Or.inl ⟨by rfl, ?_⟩) hH ?_
      rotate_left
      · (intro wy hSw; (try dsimp only at hSw); have rc := HRCW.out wy (HWRB.out.trans hSw (fun _ _ e => e)); have kcv := run_string_row (P := Try.prog) rc 22 5 9 Try.underlying22 Try.underlying5 Try.underlying9 cap2; go_simp; try (with_reducible rfl))
      try simp only [Act.put, List.setIfInBounds_toArray, List.set_cons_zero, List.set_cons_succ]
      have HVd := Lib.hid hH
      refine Late.Goes.one (i := 3) (by kernel_rfl) (by simp only [List.getElem?_toArray, List.getElem?_cons_succ, List.getElem?_cons_zero]; rfl) (fun K hK => ?_)
      clear hH
      go_simp
      go_at_call 15
      refine (HENC.out _ HVd.out).mono ?_
      rintro e we ⟨v, rfl, hown, hbe⟩
      obtain ⟨ae, ce, rfl, hre, -, -⟩ := own_shape hown HBYR.out
      have HVe := Lib.hid (HVd.out.trans (But.of_new hbe) (fun _ _ e => e))
      have HRE := Lib.hid (fun V (hV : But (fun _ => False) we V) => run_string_row (P := Try.prog) (hre.but hV (fun _ _ _ e => e)) 22 5 9 Try.underlying22 Try.underlying5 Try.underlying9 ce)
      clear hown hre hbe
      refine hK.out _ _ ?_ (fun hH => ?_)
      · exact fun _ => HVe.out
      clear hK K
      have hH := hH rfl
      try simp only [Act.put, List.setIfInBounds_toArray, List.set_cons_zero, List.set_cons_succ]
      have kx := HRE.out _ (But.refl _ _)
      have HSQ := Lib.hid (show ((strOfNums (encOf r)).toList == (strOfNums zs2).toList) = true by rw [HEQ.out]; simp)
      have hsq := HSQ.out
      refine Late.Goes.one (i := 4) (by kernel_rfl) (by simp only [List.getElem?_toArray, List.getElem?_cons_succ, List.getElem?_cons_zero]; rfl) (fun K hK => ?_)
      clear hH
      go_simp
      refine hK.out _ _ ?_ (fun hH => ?_)
      · exact fun _ => HVe.out
      clear hK K
      have hH := hH rfl
      try simp only [Act.put, List.setIfInBounds_toArray, List.set_cons_zero, List.set_cons_succ]
      refine Late.Goes.takeT (i := 7) (v := ?_) (by simp only [List.getElem?_toArray, List.getElem?_cons_succ, List.getElem?_cons_zero]; rfl) (by kernel_rfl) (by kernel_rfl) (by kernel_rfl) (by kernel_rfl) (by kernel_rfl) (by exact fun _ _ _ h => h) (Or.inl ⟨by rfl, ?_⟩) hH ?_
      rotate_left
      · (intro wy hSw; (try dsimp only at hSw); have rc := HRCW.out wy (HWRB.out.trans hSw (fun _ _ e => e)); have kcv := run_string_row (P := Try.prog) rc 22 5 9 Try.underlying22 Try.underlying5 Try.underlying9 cap2; go_simp; try (with_reducible rfl))
      try simp only [Act.put, List.setIfInBounds_toArray, List.set_cons_zero, List.set_cons_succ]
      refine Late.Goes.takeT (i := 8) (v := ?_) (by simp only [List.getElem?_toArray, List.getElem?_cons_succ, List.getElem?_cons_zero]; rfl) (by kernel_rfl) (by kernel_rfl) (by kernel_rfl) (by kernel_rfl) (by kernel_rfl) (by exact fun _ _ _ h => h) (Or.inl ⟨by rfl, ?_⟩) hH ?_
      rotate_left
      · (intro wy hSw; (try dsimp only at hSw); have rc := HRCW.out wy (HWRB.out.trans hSw (fun _ _ e => e)); have kcv := run_string_row (P := Try.prog) rc 22 5 9 Try.underlying22 Try.underlying5 Try.underlying9 cap2; go_simp; try (with_reducible rfl))
      try simp only [Act.put, List.setIfInBounds_toArray, List.set_cons_zero, List.set_cons_succ]
      refine Late.Goes.one (i := 9) (by kernel_rfl) (by simp only [List.getElem?_toArray, List.getElem?_cons_succ, List.getElem?_cons_zero]; rfl) (fun K hK => ?_)
      clear hH
      go_simp
      refine hK.out _ _ ?_ (fun _ => ?_)
      · exact fun h => by cases h
      clear hK K
      try simp only [Act.put, List.setIfInBounds_toArray, List.set_cons_zero, List.set_cons_succ]
      refine Late.Goes.done (by kernel_rfl) ?_ _
      have HF := Lib.hid ((HWRB.out.trans HVe.out (fun _ _ e => e)).new)
      go_wp2_with fail
      go_ret
      exact ⟨rfl, H00.out.trans (HF.out.mono H00.out.size)⟩
    · have HF := Lib.hid ((HWN.out.trans (But.of_new hbd) (fun _ _ e => e)).new.alloc (HWN.out.trans (But.of_new hbd) (fun _ _ e => e)).size (.cells #[.int .i64 0, .int .i64 0, .int .u32 0, .int .u32 0, .int .u64 0, .int .u64 0, .string ⟨#[]⟩, .slice none 0 0, .bool false, .int .i64 0, .int .i64 0, .int .i64 0, .int .u64 0, .slice none 0 0] 49))
      clear hbd HKD
      unfold zresp
      go_wp2_with fail
      go_ret
      exact ⟨rfl, H00.out.trans (HF.out.mono H00.out.size)⟩
end Go.Proofs.Ytbdbbnpkekcefaa.Cmd
