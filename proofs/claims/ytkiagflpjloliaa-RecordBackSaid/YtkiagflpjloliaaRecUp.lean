/- The head of the statements of layer 6: the document's example holds. -/
import Derived.Test.YtkiagflpjloliaaRecCost
import Derived.Lib.SlBytesConst
namespace Go.Proofs.Ytkiagflpjloliaa.Rec
open Go.Proofs.Ytkiagflpjloliaa.Mem Go.Proofs.Ytkiagflpjloliaa.Pack Go.Proofs.Ytkiagflpjloliaa.Err
open Go.ChangeShapes Go.WideShapes Go.ChangeAt Go.RowKit
set_option linter.unusedVariables false
set_option linter.unusedSimpArgs false

def ex1 : Rcd := ⟨2, 3, 1, 0, 0, 0, 0, 0, 0, 0, nothing, nothing, 0, 0⟩
theorem ex1_may : May ex1 := by decide
theorem ex1_is : Is ex1 := ⟨by decide, by decide, by decide, by decide, by decide, by decide, by decide, by decide, by decide, by decide, by decide⟩
theorem ex1_body : body [ex1] = [2, 3, 1, 0, 0, 0] := by decide
theorem ex1_ok : okBody [ex1] := ⟨by decide, fun r hr => by rw [List.mem_singleton.1 hr]; exact ex1_may, by rw [ex1_body]; decide⟩
theorem ex1_cost : costOf ex1 = 14 := by
  have : costOf ex1 = (((bytesOf ex1).length + 8 : Nat) : Int) := if_pos ex1_may
  rw [this]; decide
set_option maxHeartbeats 1000000 in
theorem recGet_nil (a : Option Addr) (cap : Nat) (w : World) : Calls Try.prog 14 #[.slice a 0 cap] w fun e w' => e = .returned (.tuple #[.slice none 0 0, .iface 40 (.int .i64 2)]) ∧ w = w' := by
  go_enter Try.func14, Try.ntmps14
  go_wp2
  go_ret2
  exact ⟨rfl, rfl⟩
theorem recPut_ex1 (a : Option Addr) (w : World) (h : Recs w a [ex1]) : Calls Try.prog 12 #[.slice a 1 1] w fun e w' => ∃ v, e = .returned (.tuple #[v, .nilIface]) ∧ w'.ownsRow w.heap.size 5 1 v 6 (cellsOf [2, 3, 1, 0, 0, 0]) ∧ Below w.heap.size w w' := by
  refine (recPut_any a 1 [ex1] w h (by simp)).mono ?_
  rintro e w' ⟨hb, ⟨_, v, rfl, ho⟩ | ⟨hno, _⟩⟩
  · rw [ex1_body] at ho
    exact ⟨v, rfl, ho, hb⟩
  · exact absurd ex1_ok hno
set_option maxRecDepth 100000 in
set_option maxHeartbeats 4000000 in
theorem up_any (w : World) : Calls Try.prog 6 #[] w fun e w' => e = .returned (.bool true) ∧ Below w.heap.size w w' := by
  have hm := fun w => may_any ex1 w
  rw [decide_eq_true ex1_may] at hm
  have hc := fun w => cost_any ex1 ex1_is w
  rw [ex1_cost] at hc
  have z0 : ((0 : Nat) : Int) = 0 := rfl
  have z1 : ((1 : Nat) : Int) = 1 := rfl
  simp only [rv, cells, ex1, nothing, z0, z1] at hm hc
  have HM := Lib.hid hm
  have HC := Lib.hid hc
  have ke := code_eql
  clear hm hc z0 z1
  go_enter Try.func6, Try.ntmps6
  go_wp2_with fail
  have h2 := Blk.two w #[.int .i64 2, .int .i64 3, .int .u32 1, .int .i64 0, .int .i64 0, .int .i64 0, .int .u64 0, .int .u32 0, .int .i64 0, .int .u64 0, .string ⟨#[]⟩, .string ⟨#[]⟩, .int .u64 0, .int .u64 0] #[.int .i64 2, .int .i64 3, .int .u32 1, .int .i64 0, .int .i64 0, .int .i64 0, .int .u64 0, .int .u32 0, .int .i64 0, .int .u64 0, .string ⟨#[]⟩, .string ⟨#[]⟩, .int .u64 0, .int .u64 0] 27 27
  have hrec : Recs ((w.alloc (.cells #[.int .i64 2, .int .i64 3, .int .u32 1, .int .i64 0, .int .i64 0, .int .i64 0, .int .u64 0, .int .u32 0, .int .i64 0, .int .u64 0, .string ⟨#[]⟩, .string ⟨#[]⟩, .int .u64 0, .int .u64 0] 27)).alloc (.cells #[.int .i64 2, .int .i64 3, .int .u32 1, .int .i64 0, .int .i64 0, .int .i64 0, .int .u64 0, .int .u32 0, .int .i64 0, .int .u64 0, .string ⟨#[]⟩, .string ⟨#[]⟩, .int .u64 0, .int .u64 0] 27)) (some ⟨w.heap.size + 1, 0, none⟩) [ex1] := by
    refine ⟨fun r hr => by rw [List.mem_singleton.1 hr]; exact ex1_is, fun _ => ⟨_, _, rfl, h2.2.lt, fun i hi j u hu => ?_⟩⟩
    have hi0 : i = 0 := by simp at hi; omega
    subst hi0
    rw [show 0 + 0 * 14 + j = j by omega]
    exact (h2.2.cell j).trans hu
  refine (recPut_ex1 _ _ hrec).mono ?_
  rintro e w1 ⟨v1, rfl, ho1, hb1⟩
  have hbox := h2.1.but (But.of_new hb1 (S := fun _ => False)) (fun e => e)
  have hbw1 : Below w.heap.size w w1 := (((Below.refl _ w).alloc (Nat.le_refl _) _).alloc (by simp) _).trans (hb1.mono (by simp; omega))
  obtain ⟨a1, c1, rfl, hr1, -, -⟩ := own_shape ho1 (by rw [← ex1_body]; exact body_bytes _)
  have H1 := Lib.hid (And.intro hbox (And.intro hbw1 hr1))
  clear h2 hrec hb1 hbox hbw1 hr1 ho1
  go_wp2_with fail
  refine (recPut_nil none 0 w1).mono ?_
  rintro e w2 ⟨hb2, ⟨hok, _⟩ | ⟨_, rfl⟩⟩
  · exact absurd hok.1 (by simp)
  obtain ⟨hbox, hbw1, hr1⟩ := H1.out
  have hbox2 := hbox.but (But.of_new hb2 (S := fun _ => False)) (fun e => e)
  have hbw2 := hbw1.trans (hb2.mono hbw1.size)
  have hr2 := hr1.below hb2
  clear hbox hbw1 hr1 hb2 H1
  go_wp2_with fail
  refine (recGet_nil none 0 w2).mono ?_
  rintro e w3 ⟨rfl, rfl⟩
  have hs := fun dst hd => run_string_row (P := Try.prog) hr2 33 5 dst Try.underlying33 Try.underlying5 hd c1
  have hz : strOfNums [2, 3, 1, 0, 0, 0] = ⟨#[2, 3, 1, 0, 0, 0]⟩ := by decide
  rw [hz] at hs
  have HB := Lib.hid (And.intro hbox2 hbw2)
  have c0 : w2.cell? ⟨w.heap.size, 0, none⟩ = some (.int .i64 2) := (hbox2.cell 0).trans rfl
  have c1 : w2.cell? ⟨w.heap.size, 1, none⟩ = some (.int .i64 3) := (hbox2.cell 1).trans rfl
  have c2 : w2.cell? ⟨w.heap.size, 2, none⟩ = some (.int .u32 1) := (hbox2.cell 2).trans rfl
  have c3 : w2.cell? ⟨w.heap.size, 3, none⟩ = some (.int .i64 0) := (hbox2.cell 3).trans rfl
  have c4 : w2.cell? ⟨w.heap.size, 4, none⟩ = some (.int .i64 0) := (hbox2.cell 4).trans rfl
  have c5 : w2.cell? ⟨w.heap.size, 5, none⟩ = some (.int .i64 0) := (hbox2.cell 5).trans rfl
  have c6 : w2.cell? ⟨w.heap.size, 6, none⟩ = some (.int .u64 0) := (hbox2.cell 6).trans rfl
  have c7 : w2.cell? ⟨w.heap.size, 7, none⟩ = some (.int .u32 0) := (hbox2.cell 7).trans rfl
  have c8 : w2.cell? ⟨w.heap.size, 8, none⟩ = some (.int .i64 0) := (hbox2.cell 8).trans rfl
  have c9 : w2.cell? ⟨w.heap.size, 9, none⟩ = some (.int .u64 0) := (hbox2.cell 9).trans rfl
  have c10 : w2.cell? ⟨w.heap.size, 10, none⟩ = some (.string ⟨#[]⟩) := (hbox2.cell 10).trans rfl
  have c11 : w2.cell? ⟨w.heap.size, 11, none⟩ = some (.string ⟨#[]⟩) := (hbox2.cell 11).trans rfl
  have c12 : w2.cell? ⟨w.heap.size, 12, none⟩ = some (.int .u64 0) := (hbox2.cell 12).trans rfl
  have c13 : w2.cell? ⟨w.heap.size, 13, none⟩ = some (.int .u64 0) := (hbox2.cell 13).trans rfl
  clear hr2 hz hbox2 hbw2
  go_wp2_with fail
  refine (HC.out _).mono ?_
  rintro e w4 ⟨rfl, hb4⟩
  obtain ⟨hbox2, hbw2⟩ := HB.out
  have hbox4 := hbox2.but (But.of_new hb4 (S := fun _ => False)) (fun e => e)
  have hbw4 := hbw2.trans (hb4.mono hbw2.size)
  have d0 : w4.cell? ⟨w.heap.size, 0, none⟩ = some (.int .i64 2) := (hbox4.cell 0).trans rfl
  have d1 : w4.cell? ⟨w.heap.size, 1, none⟩ = some (.int .i64 3) := (hbox4.cell 1).trans rfl
  have d2 : w4.cell? ⟨w.heap.size, 2, none⟩ = some (.int .u32 1) := (hbox4.cell 2).trans rfl
  have d3 : w4.cell? ⟨w.heap.size, 3, none⟩ = some (.int .i64 0) := (hbox4.cell 3).trans rfl
  have d4 : w4.cell? ⟨w.heap.size, 4, none⟩ = some (.int .i64 0) := (hbox4.cell 4).trans rfl
  have d5 : w4.cell? ⟨w.heap.size, 5, none⟩ = some (.int .i64 0) := (hbox4.cell 5).trans rfl
  have d6 : w4.cell? ⟨w.heap.size, 6, none⟩ = some (.int .u64 0) := (hbox4.cell 6).trans rfl
  have d7 : w4.cell? ⟨w.heap.size, 7, none⟩ = some (.int .u32 0) := (hbox4.cell 7).trans rfl
  have d8 : w4.cell? ⟨w.heap.size, 8, none⟩ = some (.int .i64 0) := (hbox4.cell 8).trans rfl
  have d9 : w4.cell? ⟨w.heap.size, 9, none⟩ = some (.int .u64 0) := (hbox4.cell 9).trans rfl
  have d10 : w4.cell? ⟨w.heap.size, 10, none⟩ = some (.string ⟨#[]⟩) := (hbox4.cell 10).trans rfl
  have d11 : w4.cell? ⟨w.heap.size, 11, none⟩ = some (.string ⟨#[]⟩) := (hbox4.cell 11).trans rfl
  have d12 : w4.cell? ⟨w.heap.size, 12, none⟩ = some (.int .u64 0) := (hbox4.cell 12).trans rfl
  have d13 : w4.cell? ⟨w.heap.size, 13, none⟩ = some (.int .u64 0) := (hbox4.cell 13).trans rfl
  have HB4 := Lib.hid hbw4
  clear hbox2 hbw2 hbox4 hbw4 hb4 HB
  go_wp2_with fail
  refine (HM.out _).mono ?_
  rintro e w5 ⟨rfl, hb5⟩
  have HB5 := Lib.hid (HB4.out.trans (hb5.mono HB4.out.size))
  clear hb5
  go_wp2_with fail
  go_ret
  exact ⟨rfl, HB5.out⟩
end Go.Proofs.Ytkiagflpjloliaa.Rec
