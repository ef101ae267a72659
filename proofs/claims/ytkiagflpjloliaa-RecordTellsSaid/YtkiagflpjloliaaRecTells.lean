/- RecordTells: the walk of the law. -/
import Derived.Test.YtkiagflpjloliaaRecUp
import Derived.Test.YtkiagflpjloliaaRecFew
import Derived.Test.YtkiagflpjloliaaRecBody
namespace Go.Proofs.Ytkiagflpjloliaa.Rec
open Go.Proofs.Ytkiagflpjloliaa.Mem Go.Proofs.Ytkiagflpjloliaa.Pack Go.Proofs.Ytkiagflpjloliaa.Err
open Go.ChangeShapes Go.WideShapes Go.ChangeAt Go.RowKit
set_option linter.unusedVariables false
set_option linter.unusedSimpArgs false

set_option maxRecDepth 100000 in
set_option maxHeartbeats 4000000 in
theorem tells_any (r : Rcd) (hi : Is r) (a : Option Addr) (cap : Nat) (l : List Rcd) (w : World) (h : Recs w a l) (hl : l.length ≤ 9223372036854775807) :
    Calls Try.prog 3 #[rv r, .slice a l.length cap] w fun e w' => e = .returned (.bool true) ∧ Below w.heap.size w w' := by
  have hm := fun w => may_any r w
  have hrm := fun w => refMay_any r w
  have hc := fun w => cost_any r hi w
  have hrc := fun hmr w => refCost_any r hmr hi w
  have hks := hi.key
  have hvs := hi.val
  simp only [rv, cells] at hm hrm hc hrc ⊢
  have HM := Lib.hid hm
  have HRM := Lib.hid hrm
  have HC := Lib.hid hc
  have HRC := Lib.hid hrc
  have HL := Lib.hid h
  clear hm hrm hc hrc h hi
  go_enter Try.func3, Try.ntmps3
  go_wp2_with fail
  refine (up_any _).mono ?_
  rintro e w1 ⟨rfl, hb1⟩
  have hbox1 : Blk w1 w.heap.size 27 (cells r) := (Blk.new w 27 (cells r)).but (But.of_new hb1 (S := fun _ => False)) (fun e => e)
  have hbw1 : Below w.heap.size w w1 := ((Below.refl _ w).alloc (Nat.le_refl _) _).trans (hb1.mono (by simp))
  have HL1 := Lib.hid (HL.out.below hbw1)
  have c10 : w1.cell? ⟨w.heap.size, 10, none⟩ = some (.string r.key) := (hbox1.cell 10).trans rfl
  have c11 : w1.cell? ⟨w.heap.size, 11, none⟩ = some (.string r.val) := (hbox1.cell 11).trans rfl
  simp only [cells] at hbox1
  have HB1 := Lib.hid (And.intro hbox1 hbw1)
  have HX1 := Lib.hid (show _ = _ from hbox1)
  clear hb1 hbox1 hbw1
  go_wp2_with fail
  refine (few_any a cap l w1 HL1.out hl).mono ?_
  rintro e w2 ⟨⟨z, rfl, hz⟩, rfl⟩
  rcases hz with ⟨rfl, hs, h40⟩ | ⟨rfl, -⟩
  rotate_left
  · go_wp2_with fail
    go_ret
    exact ⟨rfl, HB1.out.2⟩
  by_cases hk2 : 200 < r.key.size
  · have d1 : decide (200 < (r.key.size : Int)) = true := decide_eq_true (by omega)
    go_wp2_with fail
    go_ret
    exact ⟨rfl, HB1.out.2⟩
  have d1 : decide (200 < (r.key.size : Int)) = false := decide_eq_false (by omega)
  by_cases hv2 : 2000 < r.val.size
  · have d2 : decide (2000 < (r.val.size : Int)) = true := decide_eq_true (by omega)
    go_wp2_with fail
    go_ret
    exact ⟨rfl, HB1.out.2⟩
  have d2 : decide (2000 < (r.val.size : Int)) = false := decide_eq_false (by omega)
  clear hs
  go_wp2_with (refine wpList_load_row rfl 27 _ rfl w.heap.size rfl 27 _ (0, 0) _ HX1.out Try.underlying27 rfl rec_size ?_)
  refine (HRM.out _).mono ?_
  rintro e w3 ⟨rfl, hb3⟩
  have hbox3 := HB1.out.1.but (But.of_new hb3 (S := fun _ => False)) (fun e => e)
  have hbw3 := HB1.out.2.trans (hb3.mono HB1.out.2.size)
  have HB3 := Lib.hid (And.intro hbox3 hbw3)
  have HX3 := Lib.hid (show _ = _ from hbox3)
  have hcost : ∃ c, c = costOf r := ⟨_, rfl⟩
  obtain ⟨c, hce⟩ := hcost
  have HCE := Lib.hid hce
  clear hb3 hbox3 hbw3 HX1 HB1 c10 c11
  rw [← hce] at HC HRC
  by_cases hmr : May r
  · rw [decide_eq_true hmr] at HM ⊢
    have HRC2 := Lib.hid (HRC.out hmr)
    clear HRC hce hmr
    go_wp2_with (refine wpList_load_row rfl 27 _ rfl w.heap.size rfl 27 _ (0, 0) _ HX3.out Try.underlying27 rfl rec_size ?_)
    refine (HRC2.out _).mono ?_
    rintro e w4 ⟨rfl, hb4⟩
    have hbox4 := HB3.out.1.but (But.of_new hb4 (S := fun _ => False)) (fun e => e)
    have hbw4 := HB3.out.2.trans (hb4.mono HB3.out.2.size)
    have HB4 := Lib.hid (And.intro hbox4 hbw4)
    have HX4 := Lib.hid (show _ = _ from hbox4)
    clear hb4 hbox4 hbw4 HB3 HX3 HRC2
    go_wp2_with (refine wpList_load_row rfl 27 _ rfl w.heap.size rfl 27 _ (0, 0) _ HX4.out Try.underlying27 rfl rec_size ?_)
    refine (HM.out _).mono ?_
    rintro e w5 ⟨rfl, hb5⟩
    have hbox5 := HB4.out.1.but (But.of_new hb5 (S := fun _ => False)) (fun e => e)
    have hbw5 := HB4.out.2.trans (hb5.mono HB4.out.2.size)
    have HB5 := Lib.hid (And.intro hbox5 hbw5)
    have HX5 := Lib.hid (show _ = _ from hbox5)
    have c0 : w5.cell? ⟨w.heap.size, 0, none⟩ = some (.int .i64 r.kind) := (hbox5.cell 0).trans rfl
    have c1 : w5.cell? ⟨w.heap.size, 1, none⟩ = some (.int .i64 r.bucket) := (hbox5.cell 1).trans rfl
    have c2 : w5.cell? ⟨w.heap.size, 2, none⟩ = some (.int .u32 (r.gen : Int)) := (hbox5.cell 2).trans rfl
    have c3 : w5.cell? ⟨w.heap.size, 3, none⟩ = some (.int .i64 r.keys) := (hbox5.cell 3).trans rfl
    have c4 : w5.cell? ⟨w.heap.size, 4, none⟩ = some (.int .i64 r.bytes) := (hbox5.cell 4).trans rfl
    have c5 : w5.cell? ⟨w.heap.size, 5, none⟩ = some (.int .i64 r.budget) := (hbox5.cell 5).trans rfl
    have c6 : w5.cell? ⟨w.heap.size, 6, none⟩ = some (.int .u64 (r.seq : Int)) := (hbox5.cell 6).trans rfl
    have c7 : w5.cell? ⟨w.heap.size, 7, none⟩ = some (.int .u32 (r.serial : Int)) := (hbox5.cell 7).trans rfl
    have c8 : w5.cell? ⟨w.heap.size, 8, none⟩ = some (.int .i64 r.rights) := (hbox5.cell 8).trans rfl
    have c9 : w5.cell? ⟨w.heap.size, 9, none⟩ = some (.int .u64 (r.secret : Int)) := (hbox5.cell 9).trans rfl
    have c10 : w5.cell? ⟨w.heap.size, 10, none⟩ = some (.string r.key) := (hbox5.cell 10).trans rfl
    have c11 : w5.cell? ⟨w.heap.size, 11, none⟩ = some (.string r.val) := (hbox5.cell 11).trans rfl
    have c12 : w5.cell? ⟨w.heap.size, 12, none⟩ = some (.int .u64 (r.version : Int)) := (hbox5.cell 12).trans rfl
    have c13 : w5.cell? ⟨w.heap.size, 13, none⟩ = some (.int .u64 (r.expiry : Int)) := (hbox5.cell 13).trans rfl
    clear hb5 hbox5 hbw5 HB4 HX4
    go_wp2_with fail
    clear c0 c1 c2 c3 c4 c5 c6 c7 c8 c9 c10 c11 c12 c13
    refine (HC.out _).mono ?_
    rintro e w6 ⟨rfl, hb6⟩
    have hbox6 := HB5.out.1.but (But.of_new hb6 (S := fun _ => False)) (fun e => e)
    have hbw6 := HB5.out.2.trans (hb6.mono HB5.out.2.size)
    have HB6 := Lib.hid (And.intro hbox6 hbw6)
    have HX6 := Lib.hid (show _ = _ from hbox6)
    have HL6 := Lib.hid (HL.out.below hbw6)
    have hcc : (c != c) = false := by simp
    clear hb6 hbox6 hbw6 HB5 HX5
    go_wp2_with fail
    refine (recPut_any a cap l w6 HL6.out (by omega)).mono ?_
    rintro e w7 ⟨hb7, hP⟩
    have hbw7 := HB6.out.2.trans (hb7.mono HB6.out.2.size)
    have HL7 := Lib.hid (HL.out.below hbw7)
    have HB7 := Lib.hid hbw7
    clear hb7 hbw7 HB6 HX6 HL6
    rcases hP with ⟨hok, v7, rfl, ho7⟩ | ⟨hno, rfl⟩
    · obtain ⟨a7, c7, rfl, hr7, -, -⟩ := own_shape ho7 (body_bytes l)
      have HR7 := Lib.hid hr7
      clear ho7 hr7
      go_wp2_with fail
      refine (refBody_any a cap l w7 HL7.out (by omega)).mono ?_
      rintro e w8 ⟨hb8, ⟨_, v8, rfl, ho8⟩ | ⟨hno, _⟩⟩
      · obtain ⟨a8, c8, rfl, hr8, -, -⟩ := own_shape ho8 (body_bytes l)
        have hr7 := HR7.out.below hb8
        have hs7 := fun dst hd => run_string_row (P := Try.prog) hr7 33 5 dst Try.underlying33 Try.underlying5 hd c7
        have hs8 := fun dst hd => run_string_row (P := Try.prog) hr8 33 5 dst Try.underlying33 Try.underlying5 hd c8
        have HB8 := Lib.hid (HB7.out.trans (hb8.mono HB7.out.size))
        clear hb8 ho8 hr7 hr8 hok
        obtain ⟨N, hN⟩ : ∃ N, N = (body l).length := ⟨_, rfl⟩
        obtain ⟨B, hB⟩ : ∃ B, B = strOfNums (body l) := ⟨_, rfl⟩
        rw [← hN, ← hB] at hs7 hs8
        rw [← hN]
        clear hN hB
        go_wp2_with fail
        go_ret
        exact ⟨rfl, HB8.out⟩
      · exact absurd hok hno
    · go_wp2_with fail
      refine (refBody_any a cap l w7 HL7.out (by omega)).mono ?_
      rintro e w8 ⟨hb8, ⟨hok, _⟩ | ⟨_, v8, rfl⟩⟩
      · exact absurd hok hno
      · have HB8 := Lib.hid (HB7.out.trans (hb8.mono HB7.out.size))
        have ke := code_eql
        clear hb8
        go_wp2_with fail
        go_ret
        exact ⟨rfl, HB8.out⟩
  · rw [decide_eq_false hmr] at HM ⊢
    have hc0 : c = 0 := by rw [hce]; exact if_neg hmr
    clear HRC hce hmr
    subst hc0
    go_wp2_with (refine wpList_load_row rfl 27 _ rfl w.heap.size rfl 27 _ (0, 0) _ HX3.out Try.underlying27 rfl rec_size ?_)
    refine (HM.out _).mono ?_
    rintro e w5 ⟨rfl, hb5⟩
    have hbox5 := HB3.out.1.but (But.of_new hb5 (S := fun _ => False)) (fun e => e)
    have hbw5 := HB3.out.2.trans (hb5.mono HB3.out.2.size)
    have HB5 := Lib.hid (And.intro hbox5 hbw5)
    have HX5 := Lib.hid (show _ = _ from hbox5)
    have c0 : w5.cell? ⟨w.heap.size, 0, none⟩ = some (.int .i64 r.kind) := (hbox5.cell 0).trans rfl
    have c1 : w5.cell? ⟨w.heap.size, 1, none⟩ = some (.int .i64 r.bucket) := (hbox5.cell 1).trans rfl
    have c2 : w5.cell? ⟨w.heap.size, 2, none⟩ = some (.int .u32 (r.gen : Int)) := (hbox5.cell 2).trans rfl
    have c3 : w5.cell? ⟨w.heap.size, 3, none⟩ = some (.int .i64 r.keys) := (hbox5.cell 3).trans rfl
    have c4 : w5.cell? ⟨w.heap.size, 4, none⟩ = some (.int .i64 r.bytes) := (hbox5.cell 4).trans rfl
    have c5 : w5.cell? ⟨w.heap.size, 5, none⟩ = some (.int .i64 r.budget) := (hbox5.cell 5).trans rfl
    have c6 : w5.cell? ⟨w.heap.size, 6, none⟩ = some (.int .u64 (r.seq : Int)) := (hbox5.cell 6).trans rfl
    have c7 : w5.cell? ⟨w.heap.size, 7, none⟩ = some (.int .u32 (r.serial : Int)) := (hbox5.cell 7).trans rfl
    have c8 : w5.cell? ⟨w.heap.size, 8, none⟩ = some (.int .i64 r.rights) := (hbox5.cell 8).trans rfl
    have c9 : w5.cell? ⟨w.heap.size, 9, none⟩ = some (.int .u64 (r.secret : Int)) := (hbox5.cell 9).trans rfl
    have c10 : w5.cell? ⟨w.heap.size, 10, none⟩ = some (.string r.key) := (hbox5.cell 10).trans rfl
    have c11 : w5.cell? ⟨w.heap.size, 11, none⟩ = some (.string r.val) := (hbox5.cell 11).trans rfl
    have c12 : w5.cell? ⟨w.heap.size, 12, none⟩ = some (.int .u64 (r.version : Int)) := (hbox5.cell 12).trans rfl
    have c13 : w5.cell? ⟨w.heap.size, 13, none⟩ = some (.int .u64 (r.expiry : Int)) := (hbox5.cell 13).trans rfl
    clear hb5 hbox5 hbw5 HB3 HX3
    go_wp2_with fail
    clear c0 c1 c2 c3 c4 c5 c6 c7 c8 c9 c10 c11 c12 c13
    refine (HC.out _).mono ?_
    rintro e w6 ⟨rfl, hb6⟩
    have hbox6 := HB5.out.1.but (But.of_new hb6 (S := fun _ => False)) (fun e => e)
    have hbw6 := HB5.out.2.trans (hb6.mono HB5.out.2.size)
    have HB6 := Lib.hid (And.intro hbox6 hbw6)
    have HX6 := Lib.hid (show _ = _ from hbox6)
    have HL6 := Lib.hid (HL.out.below hbw6)
    clear hb6 hbox6 hbw6 HB5 HX5
    go_wp2_with fail
    refine (recPut_any a cap l w6 HL6.out (by omega)).mono ?_
    rintro e w7 ⟨hb7, hP⟩
    have hbw7 := HB6.out.2.trans (hb7.mono HB6.out.2.size)
    have HL7 := Lib.hid (HL.out.below hbw7)
    have HB7 := Lib.hid hbw7
    clear hb7 hbw7 HB6 HX6 HL6
    rcases hP with ⟨hok, v7, rfl, ho7⟩ | ⟨hno, rfl⟩
    · obtain ⟨a7, c7, rfl, hr7, -, -⟩ := own_shape ho7 (body_bytes l)
      have HR7 := Lib.hid hr7
      clear ho7 hr7
      go_wp2_with fail
      refine (refBody_any a cap l w7 HL7.out (by omega)).mono ?_
      rintro e w8 ⟨hb8, ⟨_, v8, rfl, ho8⟩ | ⟨hno, _⟩⟩
      · obtain ⟨a8, c8, rfl, hr8, -, -⟩ := own_shape ho8 (body_bytes l)
        have hr7 := HR7.out.below hb8
        have hs7 := fun dst hd => run_string_row (P := Try.prog) hr7 33 5 dst Try.underlying33 Try.underlying5 hd c7
        have hs8 := fun dst hd => run_string_row (P := Try.prog) hr8 33 5 dst Try.underlying33 Try.underlying5 hd c8
        have HB8 := Lib.hid (HB7.out.trans (hb8.mono HB7.out.size))
        clear hb8 ho8 hr7 hr8 hok
        obtain ⟨N, hN⟩ : ∃ N, N = (body l).length := ⟨_, rfl⟩
        obtain ⟨B, hB⟩ : ∃ B, B = strOfNums (body l) := ⟨_, rfl⟩
        rw [← hN, ← hB] at hs7 hs8
        rw [← hN]
        clear hN hB
        go_wp2_with fail
        go_ret
        exact ⟨rfl, HB8.out⟩
      · exact absurd hok hno
    · go_wp2_with fail
      refine (refBody_any a cap l w7 HL7.out (by omega)).mono ?_
      rintro e w8 ⟨hb8, ⟨hok, _⟩ | ⟨_, v8, rfl⟩⟩
      · exact absurd hok hno
      · have HB8 := Lib.hid (HB7.out.trans (hb8.mono HB7.out.size))
        have ke := code_eql
        clear hb8
        go_wp2_with fail
        go_ret
        exact ⟨rfl, HB8.out⟩
end Go.Proofs.Ytkiagflpjloliaa.Rec
