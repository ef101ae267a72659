/- What any bytes are parsed as: the walk of the law CommandParses. -/
import Derived.Test.YtbdbbnpkekcefaaCmdUp
import Derived.Test.YtbdbbnpkekcefaaCmdAs
import Derived.Test.YtbdbbnpkekcefaaCmdRSame
import Derived.Test.YtbdbbnpkekcefaaLate
import Derived.Test.YtbdbbnpkekcefaaCmdRParseA
import Derived.Test.YtbdbbnpkekcefaaCmdRParseB
import Derived.Test.YtbdbbnpkekcefaaCmdRParseC
import Derived.Test.YtbdbbnpkekcefaaCmdRParseD
import Derived.Test.YtbdbbnpkekcefaaCmdRParseE
import Derived.Test.YtbdbbnpkekcefaaCmdRParseF
namespace Go.Proofs.Ytbdbbnpkekcefaa.Cmd
open Go.Proofs.Ytbdbbnpkekcefaa.Mem Go.Proofs.Ytbdbbnpkekcefaa.Pack Go.Proofs.Ytbdbbnpkekcefaa.Err
open Go.ChangeShapes Go.WideShapes Go.ChangeAt Go.RowKit
set_option linter.unusedVariables false
set_option linter.unusedSimpArgs false

theorem rparse_any (a : Option Addr) (cap : Nat) (zs : List Int) (w : World) (h : Row w a zs.length zs) (hn : a = none → cap = 0) (hlc : zs.length ≤ cap) (hcm : cap ≤ maxLen) (hl : zs.length ≤ 1073741824) :
    Calls Try.prog 8 #[.slice a zs.length cap] w fun e w' => RParseIs zs w e w' := by
  obtain ⟨P, hP⟩ : ∃ P : Pos, P = ⟨zs, false⟩ := ⟨_, rfl⟩
  by_cases k1 : (P.num 1 : Int) = 1
  · exact rparse_c1a a cap zs w h hn hlc hcm hl P hP k1
  by_cases k3 : (P.num 1 : Int) = 3
  · exact rparse_c1b a cap zs w h hn hlc hcm hl P hP k3
  by_cases k2 : (P.num 1 : Int) = 2
  · exact rparse_c2 a cap zs w h hn hlc hcm hl P hP k2
  by_cases k4 : (P.num 1 : Int) = 4
  · exact rparse_c4a a cap zs w h hn hlc hcm hl P hP k4
  by_cases k5 : (P.num 1 : Int) = 5
  · exact rparse_c4b a cap zs w h hn hlc hcm hl P hP k5
  by_cases k6 : (P.num 1 : Int) = 6
  · exact rparse_c6a a cap zs w h hn hlc hcm hl P hP k6
  by_cases k7 : (P.num 1 : Int) = 7
  · exact rparse_c6b a cap zs w h hn hlc hcm hl P hP k7
  by_cases k8 : (P.num 1 : Int) = 8
  · exact rparse_c6c a cap zs w h hn hlc hcm hl P hP k8
  by_cases k9 : (P.num 1 : Int) = 9
  · exact rparse_c9 a cap zs w h hn hlc hcm hl P hP k9
  by_cases k10 : (P.num 1 : Int) = 10
  · exact rparse_c10 a cap zs w h hn hlc hcm hl P hP k10
  by_cases k11 : (P.num 1 : Int) = 11
  · exact rparse_c11 a cap zs w h hn hlc hcm hl P hP k11
  by_cases k12 : (P.num 1 : Int) = 12
  · exact rparse_c12 a cap zs w h hn hlc hcm hl P hP k12
  by_cases k13 : (P.num 1 : Int) = 13
  · exact rparse_c13 a cap zs w h hn hlc hcm hl P hP k13
  exact rparse_c0 a cap zs w h hn hlc hcm hl P hP (by omega)
theorem yields_row {ops : Array Oper} {S : World → Prop} {op : Oper} {a : Act} (hw : Region.wanted op (yielded ops a.tmps) = true) (ty : TypeId) (x : Operand) (ho : op.op = .load ty x) (b : Nat) (hx : a.eval x = .pointer (some ⟨b, 0, none⟩)) (cs : Array Value) (d : TypeDesc) (hd : (match d with | .struct _ | .array _ _ => true | _ => false) = true) (hu : Try.prog.underlying ty = some d) (hi : (Try.prog.info? ty).map (·.size) = some cs.size) (hS : ∀ w, S w → Blk w b ty cs) : YieldsIf Try.prog ops S op (.agg cs) a :=
  .inl ⟨hw, fun w h => by
    unfold execOp
    simp only [ho, hx, Instr.loadAt, Instr.sureAddr, Sem.run_bind, Sem.run_pure, Result.andThen_ok, run_loadVar_row w b ty ty cs (0, 0) d (hS w h) hu (by cases d <;> first | rfl | cases hd) hi]⟩
theorem parses_long (a : Option Addr) (len cap : Nat) (w : World) (hl : 25000 < len) (hm : len ≤ 9223372036854775807) :
    Calls Try.prog 3 #[.slice a len cap] w fun e w' => e = .returned (.bool true) ∧ Below w.heap.size w w' := by
  go_enter Try.func3, Try.ntmps3
  go_wp2_with fail
  refine (up_any w).mono ?_
  rintro e w1 ⟨rfl, hb1⟩
  go_wp2_with fail
  go_ret
  exact ⟨rfl, hb1⟩
set_option maxRecDepth 100000 in
set_option maxHeartbeats 8000000 in
theorem parses_any (a : Option Addr) (cap : Nat) (zs : List Int) (w : World) (h : Row w a zs.length zs) (hn : a = none → cap = 0) (hlc : zs.length ≤ cap) (hcm : cap ≤ maxLen) (hl : zs.length ≤ 25000) :
    Calls Try.prog 3 #[.slice a zs.length cap] w fun e w' => e = .returned (.bool true) ∧ Below w.heap.size w w' := by
  have hsame := rq_iff h.2.1
  have hfew := readRq_few ⟨zs, false⟩ h.2.1
  have K1 := Lib.hid (fun w1 hw => cparse_any a cap zs w1 hw hn (by omega))
  have K2 := Lib.hid (fun w1 hw => rparse_any a cap zs w1 hw hn hlc hcm (by omega))
  obtain ⟨L, hL⟩ : ∃ L, L = zs.length := ⟨_, rfl⟩
  rw [← hL] at K1 K2 hl h ⊢
  have H0 := Lib.hid h
  have HL := Lib.hid hL
  clear h hL hn hlc hcm
  go_enter Try.func3, Try.ntmps3
  go_wp2_with fail
  refine (up_any w).mono ?_
  rintro e w1 ⟨rfl, hb1⟩
  have HB1 := Lib.hid hb1
  have HR1 := Lib.hid (H0.out.below hb1)
  clear hb1
  go_wp2_with fail
  refine (K1.out w1 HR1.out).mono ?_
  rintro e w2 ⟨hb2, ⟨hg, sv, rfl, ho⟩ | ⟨hg, rfl⟩⟩
  · -- the bytes are a request's
    have hg2 : good zs = true := by rw [← hsame]; exact hg
    obtain ⟨q, hq⟩ : ∃ q, q = readRq ⟨zs, false⟩ := ⟨_, rfl⟩
    rw [← hq] at ho hfew ⊢
    have hone := rcells_one (q := q) ho
    obtain ⟨cs1, hcs⟩ : ∃ cs, cs = rcells q sv := ⟨_, rfl⟩
    have hrv : rv q sv = .agg cs1 := by rw [hcs]; rfl
    have hsz : cs1.size = 16 := by rw [hcs]; rfl
    rw [← hcs] at hone
    have HNA := Lib.hid (Blk.new w2 32 #[.int .i64 0, .int .u64 0, .int .i64 0, .int .i64 0, .int .i64 0, .int .i64 0, .int .i64 0, .int .u32 0, .int .u32 0, .int .u64 0, .slice none 0 0, .string ⟨#[]⟩, .bool false, .int .i64 0, .int .i64 0, .int .u32 0])
    have hxA : Blk ((w2.alloc (.cells #[.int .i64 0, .int .u64 0, .int .i64 0, .int .i64 0, .int .i64 0, .int .i64 0, .int .i64 0, .int .u32 0, .int .u32 0, .int .u64 0, .slice none 0 0, .string ⟨#[]⟩, .bool false, .int .i64 0, .int .i64 0, .int .u32 0] 32)).setRow w2.heap.size cs1) w2.heap.size 32 cs1 := HNA.out.row cs1
    have hbA : But (fun _ => False) w2 ((w2.alloc (.cells #[.int .i64 0, .int .u64 0, .int .i64 0, .int .i64 0, .int .i64 0, .int .i64 0, .int .i64 0, .int .u32 0, .int .u32 0, .int .u64 0, .slice none 0 0, .string ⟨#[]⟩, .bool false, .int .i64 0, .int .i64 0, .int .u32 0] 32)).setRow w2.heap.size cs1) := but_two w2 w2.heap.size #[.int .i64 0, .int .u64 0, .int .i64 0, .int .i64 0, .int .i64 0, .int .i64 0, .int .i64 0, .int .u32 0, .int .u32 0, .int .u64 0, .slice none 0 0, .string ⟨#[]⟩, .bool false, .int .i64 0, .int .i64 0, .int .u32 0] cs1 32 rfl
    obtain ⟨WA, hWA⟩ : ∃ W, W = ((w2.alloc (.cells #[.int .i64 0, .int .u64 0, .int .i64 0, .int .i64 0, .int .i64 0, .int .i64 0, .int .i64 0, .int .u32 0, .int .u32 0, .int .u64 0, .slice none 0 0, .string ⟨#[]⟩, .bool false, .int .i64 0, .int .i64 0, .int .u32 0] 32)).setRow w2.heap.size cs1) := ⟨_, rfl⟩
    rw [← hWA] at hxA hbA
    have hW2 : But (fun _ => False) w WA := ((But.of_new HB1.out).trans (But.of_new hb2) (fun _ _ e => e)).trans hbA (fun _ _ e => e)
    have HA := Lib.hid (And.intro hxA (And.intro (ho.nw hbA) hW2))
    have K2' := Lib.hid (K2.out _ (H0.out.but hW2 (fun _ _ _ e => e)))
    have HFEW := Lib.hid hfew
    have HGQ := Lib.hid (And.intro hg2 hq)
    have HAS := Lib.hid (fun V ho => as_any q sv V ho (by omega))
    have HONE1 := Lib.hid hone
    have HSZ1 := Lib.hid hsz
    have HRS1 := Lib.hid (req_size.trans (show some 16 = some cs1.size by rw [hsz]))
    have HWA := Lib.hid hWA
    rw [hrv] at HAS ⊢
    clear hbA hxA hW2 ho hg hg2 hfew hsame hb2 hq K1 K2 HR1 hone hcs hrv hsz hWA
    go_wp2_with (refine wpList_store_rowTo rfl 32 _ _ rfl rfl w2.heap.size cs1 rfl rfl 32 #[.int .i64 0, .int .u64 0, .int .i64 0, .int .i64 0, .int .i64 0, .int .i64 0, .int .i64 0, .int .u32 0, .int .u32 0, .int .u64 0, .slice none 0 0, .string ⟨#[]⟩, .bool false, .int .i64 0, .int .i64 0, .int .u32 0] HNA.out HRS1.out HSZ1.out.symm HONE1.out ?_; rw [← HWA.out])
    refine K2'.out.mono ?_
    rintro e w3 ⟨hb3, ⟨-, sv3, rfl, ho3⟩ | ⟨hg3, -⟩⟩
    rotate_left
    · rw [HGQ.out.1] at hg3; cases hg3
    rw [← HGQ.out.2] at ho3 ⊢
    have hone := rcells_one (q := q) ho3
    obtain ⟨cs2, hcs⟩ : ∃ cs, cs = rcells q sv3 := ⟨_, rfl⟩
    have hrv : rv q sv3 = .agg cs2 := by rw [hcs]; rfl
    have hsz : cs2.size = 16 := by rw [hcs]; rfl
    rw [← hcs] at hone
    have HNB := Lib.hid (Blk.new w3 39 #[.int .i64 0, .int .u64 0, .int .i64 0, .int .i64 0, .int .i64 0, .int .i64 0, .int .i64 0, .int .u32 0, .int .u32 0, .int .u64 0, .slice none 0 0, .string ⟨#[]⟩, .bool false, .int .i64 0, .int .i64 0, .int .u32 0])
    have hxB : Blk ((w3.alloc (.cells #[.int .i64 0, .int .u64 0, .int .i64 0, .int .i64 0, .int .i64 0, .int .i64 0, .int .i64 0, .int .u32 0, .int .u32 0, .int .u64 0, .slice none 0 0, .string ⟨#[]⟩, .bool false, .int .i64 0, .int .i64 0, .int .u32 0] 39)).setRow w3.heap.size cs2) w3.heap.size 39 cs2 := HNB.out.row cs2
    have hbB : But (fun _ => False) w3 ((w3.alloc (.cells #[.int .i64 0, .int .u64 0, .int .i64 0, .int .i64 0, .int .i64 0, .int .i64 0, .int .i64 0, .int .u32 0, .int .u32 0, .int .u64 0, .slice none 0 0, .string ⟨#[]⟩, .bool false, .int .i64 0, .int .i64 0, .int .u32 0] 39)).setRow w3.heap.size cs2) := but_two w3 w3.heap.size #[.int .i64 0, .int .u64 0, .int .i64 0, .int .i64 0, .int .i64 0, .int .i64 0, .int .i64 0, .int .u32 0, .int .u32 0, .int .u64 0, .slice none 0 0, .string ⟨#[]⟩, .bool false, .int .i64 0, .int .i64 0, .int .u32 0] cs2 39 rfl
    obtain ⟨WB, hWB⟩ : ∃ W, W = ((w3.alloc (.cells #[.int .i64 0, .int .u64 0, .int .i64 0, .int .i64 0, .int .i64 0, .int .i64 0, .int .i64 0, .int .u32 0, .int .u32 0, .int .u64 0, .slice none 0 0, .string ⟨#[]⟩, .bool false, .int .i64 0, .int .i64 0, .int .u32 0] 39)).setRow w3.heap.size cs2) := ⟨_, rfl⟩
    rw [← hWB] at hxB hbB
    have h23 : But (fun _ => False) _ w3 := But.of_new hb3
    have hxA3 := (HA.out.1.but h23 (fun e => e)).but hbB (fun e => e)
    have HO2 := Lib.hid ((HA.out.2.1.nw h23).nw hbB)
    have HO3 := Lib.hid (ho3.nw hbB)
    have HW := Lib.hid ((HA.out.2.2.trans h23 (fun _ _ e => e)).trans hbB (fun _ _ e => e))
    have HCA := Lib.hid (fun V (hV : But (fun _ => False) WB V) => hxA3.but hV (fun e => e))
    have HCB := Lib.hid (fun V (hV : But (fun _ => False) WB V) => hxB.but hV (fun e => e))
    have HSAME := Lib.hid (fun V sv5 h1 h2 => rsame_any q q sv5 sv3 V h1 h2 (by have := HFEW.out; omega) (by have := HFEW.out; omega))
    have HONE2 := Lib.hid hone
    have HSZ2 := Lib.hid hsz
    have HRS2 := Lib.hid (ref_size.trans (show some 16 = some cs2.size by rw [hsz]))
    have HWB := Lib.hid hWB
    rw [hrv] at HSAME ⊢
    clear hbB hxB h23 hxA3 ho3 hb3 HA K2' hone hcs hrv hsz hWB
    have ke := code_eql
    go_wp2_with (refine wpList_store_rowTo rfl 39 _ _ rfl rfl w3.heap.size cs2 rfl rfl 39 #[.int .i64 0, .int .u64 0, .int .i64 0, .int .i64 0, .int .i64 0, .int .i64 0, .int .i64 0, .int .u32 0, .int .u32 0, .int .u64 0, .slice none 0 0, .string ⟨#[]⟩, .bool false, .int .i64 0, .int .i64 0, .int .u32 0] HNB.out HRS2.out HSZ2.out.symm HONE2.out ?_; rw [← HWB.out])
    refine Late.region_goes (fun V => But (fun _ => False) WB V) (fun _ => false) (by kernel_rfl) ?_ (fun hH => ?_)
    · exact (But.refl _ _).drew
    refine Late.Goes.takeT (i := 0) (v := ?_) (by simp only [List.getElem?_toArray, List.getElem?_cons_succ, List.getElem?_cons_zero]; rfl) (by kernel_rfl) (by kernel_rfl) (by kernel_rfl) (by kernel_rfl) (by kernel_rfl) (by exact fun _ _ _ h => h) (Or.inl ⟨by rfl, ?_⟩) hH ?_
    rotate_left
    · (intro wy hSw; (try dsimp only at hSw); go_simp; try (with_reducible rfl))
    try simp only [Act.put, List.setIfInBounds_toArray, List.set_cons_zero, List.set_cons_succ]
    refine Late.Goes.takeT (i := 1) (v := ?_) (by simp only [List.getElem?_toArray, List.getElem?_cons_succ, List.getElem?_cons_zero]; rfl) (by kernel_rfl) (by kernel_rfl) (by kernel_rfl) (by kernel_rfl) (by kernel_rfl) (by exact fun _ _ _ h => h) (Or.inl ⟨by rfl, ?_⟩) hH ?_
    rotate_left
    · (intro wy hSw; (try dsimp only at hSw); go_simp; try (with_reducible rfl))
    try simp only [Act.put, List.setIfInBounds_toArray, List.set_cons_zero, List.set_cons_succ]
    refine Late.Goes.takeT (i := 2) (v := ?_) (by simp only [List.getElem?_toArray, List.getElem?_cons_succ, List.getElem?_cons_zero]; rfl) (by kernel_rfl) (by kernel_rfl) (by kernel_rfl) (by kernel_rfl) (by kernel_rfl) (by exact fun _ _ _ h => h) (Or.inl ⟨by rfl, ?_⟩) hH ?_
    rotate_left
    · (intro wy hSw; (try dsimp only at hSw); go_simp; try (with_reducible rfl))
    try simp only [Act.put, List.setIfInBounds_toArray, List.set_cons_zero, List.set_cons_succ]
    refine Late.Goes.takeT (i := 3) (v := ?_) (by simp only [List.getElem?_toArray, List.getElem?_cons_succ, List.getElem?_cons_zero]; rfl) (by kernel_rfl) (by kernel_rfl) (by kernel_rfl) (by kernel_rfl) (by kernel_rfl) (by exact fun _ _ _ h => h) (Or.inl ⟨by rfl, ?_⟩) hH ?_
    rotate_left
    · (intro wy hSw; (try dsimp only at hSw); go_simp; try (with_reducible rfl))
    try simp only [Act.put, List.setIfInBounds_toArray, List.set_cons_zero, List.set_cons_succ]
    refine Late.Goes.takeT (i := 4) (v := ?_) (by simp only [List.getElem?_toArray, List.getElem?_cons_succ, List.getElem?_cons_zero]; rfl) (by kernel_rfl) (by kernel_rfl) (by kernel_rfl) (by kernel_rfl) (by kernel_rfl) (by exact fun _ _ _ h => h) (Or.inl ⟨by rfl, ?_⟩) hH ?_
    rotate_left
    · (intro wy hSw; (try dsimp only at hSw); go_simp; try (with_reducible rfl))
    try simp only [Act.put, List.setIfInBounds_toArray, List.set_cons_zero, List.set_cons_succ]
    refine Late.Goes.takeT (i := 5) (v := ?_) (by simp only [List.getElem?_toArray, List.getElem?_cons_succ, List.getElem?_cons_zero]; rfl) (by kernel_rfl) (by kernel_rfl) (by kernel_rfl) (by kernel_rfl) (by kernel_rfl) (by exact fun _ _ _ h => h) (Or.inl ⟨by rfl, ?_⟩) hH ?_
    rotate_left
    · (intro wy hSw; (try dsimp only at hSw); go_simp; try (with_reducible rfl))
    try simp only [Act.put, List.setIfInBounds_toArray, List.set_cons_zero, List.set_cons_succ]
    refine Late.Goes.takeT (i := 6) (v := _) (by simp only [List.getElem?_toArray, List.getElem?_cons_succ, List.getElem?_cons_zero]; rfl) (by kernel_rfl) (by kernel_rfl) (by kernel_rfl) (by kernel_rfl) (by kernel_rfl) (by exact fun _ _ _ h => h) (yields_row (by rfl) 32 _ rfl w2.heap.size rfl cs1 _ (by rfl) Try.underlying32 HRS1.out (fun V hV => HCA.out V hV)) hH ?_
    try simp only [Act.put, List.setIfInBounds_toArray, List.set_cons_zero, List.set_cons_succ]
    refine Late.Goes.takeT (i := 8) (v := _) (by simp only [List.getElem?_toArray, List.getElem?_cons_succ, List.getElem?_cons_zero]; rfl) (by kernel_rfl) (by kernel_rfl) (by kernel_rfl) (by kernel_rfl) (by kernel_rfl) (by exact fun _ _ _ h => h) (yields_row (by rfl) 39 _ rfl w3.heap.size rfl cs2 _ (by rfl) Try.underlying39 HRS2.out (fun V hV => HCB.out V hV)) hH ?_
    try simp only [Act.put, List.setIfInBounds_toArray, List.set_cons_zero, List.set_cons_succ]
    have HV := Lib.hid hH
    refine Late.Goes.one (i := 7) (by kernel_rfl) (by simp only [List.getElem?_toArray, List.getElem?_cons_succ, List.getElem?_cons_zero]; rfl) (fun K hK => ?_)
    clear hH
    go_simp
    go_at_call 11
    refine (HAS.out _ (HO2.out.nw HV.out)).mono ?_
    rintro e w5 ⟨sv5, rfl, ho5, hb5⟩
    have HV5 := Lib.hid (HV.out.trans hb5 (fun _ _ e => e))
    have HO5 := Lib.hid ho5
    clear hb5 ho5
    refine hK.out _ _ ?_ (fun hH => ?_)
    · exact fun _ => HV5.out
    clear hK K
    have hH := hH rfl
    try simp only [Act.put, List.setIfInBounds_toArray, List.set_cons_zero, List.set_cons_succ]
    refine Late.Goes.one (i := 9) (by kernel_rfl) (by simp only [List.getElem?_toArray, List.getElem?_cons_succ, List.getElem?_cons_zero]; rfl) (fun K hK => ?_)
    clear hH
    go_simp
    go_at_call 10
    refine (HSAME.out _ sv5 HO5.out (HO3.out.nw HV5.out)).mono ?_
    rintro e w6 ⟨r, rfl, hri, hb6⟩
    have hrt : r = true := hri.2 rfl
    subst hrt
    have HV6 := Lib.hid (HV5.out.trans hb6 (fun _ _ e => e))
    clear hb6 hri
    refine hK.out _ _ ?_ (fun hH => ?_)
    · exact fun _ => HV6.out
    clear hK K
    have hH := hH rfl
    try simp only [Act.put, List.setIfInBounds_toArray, List.set_cons_zero, List.set_cons_succ]
    refine Late.Goes.takeT (i := 10) (v := ?_) (by simp only [List.getElem?_toArray, List.getElem?_cons_succ, List.getElem?_cons_zero]; rfl) (by kernel_rfl) (by kernel_rfl) (by kernel_rfl) (by kernel_rfl) (by kernel_rfl) (by exact fun _ _ _ h => h) (Or.inl ⟨by rfl, ?_⟩) hH ?_
    rotate_left
    · (intro wy hSw; (try dsimp only at hSw); go_simp; try (with_reducible rfl))
    try simp only [Act.put, List.setIfInBounds_toArray, List.set_cons_zero, List.set_cons_succ]
    refine Late.Goes.takeT (i := 11) (v := ?_) (by simp only [List.getElem?_toArray, List.getElem?_cons_succ, List.getElem?_cons_zero]; rfl) (by kernel_rfl) (by kernel_rfl) (by kernel_rfl) (by kernel_rfl) (by kernel_rfl) (by exact fun _ _ _ h => h) (Or.inl ⟨by rfl, ?_⟩) hH ?_
    rotate_left
    · (intro wy hSw; (try dsimp only at hSw); go_simp; try (with_reducible rfl))
    try simp only [Act.put, List.setIfInBounds_toArray, List.set_cons_zero, List.set_cons_succ]
    refine Late.Goes.done (by kernel_rfl) ?_ _
    have HF := Lib.hid ((HW.out.trans HV6.out (fun _ _ e => e)).new)
    clear hH
    go_wp2_with fail
    go_ret
    exact ⟨rfl, HF.out⟩
  · -- they are not
    have hg2 : good zs = false := by rw [← hsame]; exact hg
    rw [rzero_rv]
    have hbA : But (fun _ => False) w2 (w2.alloc (.cells rzero 32)) := (But.refl _ w2).alloc _
    have hxA : Blk (w2.alloc (.cells rzero 32)) w2.heap.size 32 rzero := Blk.new _ _ _
    have hW2 : But (fun _ => False) w (w2.alloc (.cells rzero 32)) := ((But.of_new HB1.out).trans (But.of_new hb2) (fun _ _ e => e)).trans hbA (fun _ _ e => e)
    have HA := Lib.hid (And.intro hxA hW2)
    have K2' := Lib.hid (K2.out _ (H0.out.but hW2 (fun _ _ _ e => e)))
    have HG := Lib.hid hg2
    clear hbA hxA hW2 hg hg2 hsame hb2 K1 K2 HR1 hfew
    unfold rzero at HA K2' ⊢
    go_wp2_with fail
    refine K2'.out.mono ?_
    rintro e w3 ⟨hb3, ⟨hg3, -⟩ | ⟨-, rfl⟩⟩
    · rw [HG.out] at hg3; cases hg3
    rw [rzero_rv]
    have hbB : But (fun _ => False) w3 (w3.alloc (.cells rzero 39)) := (But.refl _ w3).alloc _
    have h23 : But (fun _ => False) _ w3 := But.of_new hb3
    have hx := (HA.out.1.but h23 (fun e => e)).but hbB (fun e => e)
    have HW := Lib.hid ((HA.out.2.trans h23 (fun _ _ e => e)).trans hbB (fun _ _ e => e)).new
    have c0 := hx.cell 0
    have c10 := hx.cell 10
    unfold rzero at c0 c10 HW ⊢
    have kc := fun w => code_some 2 (by omega) (by omega) w
    clear hbB h23 hx hb3 HA K2'
    simp only [List.getElem?_toArray, List.getElem?_cons_succ, List.getElem?_cons_zero] at c0 c10
    go_wp2_with fail
    refine (kc _).mono ?_
    rintro e w4 ⟨rfl, rfl⟩
    go_wp2_with fail
    go_ret
    exact ⟨rfl, HW.out⟩
end Go.Proofs.Ytbdbbnpkekcefaa.Cmd
