/- The document's example, at the head of both statements. -/
import Derived.Test.YtabclecfamkanaaDoorKeyEnts
import Derived.Test.YtabclecfamkanaaDoorKeyGet
namespace Go.Proofs.YtabclecfamkanaaDoor.Key
open Go.Proofs.YtabclecfamkanaaDoor.Mem Go.Proofs.YtabclecfamkanaaDoor.Fnv
open Go.ChangeShapes Go.WideShapes Go.ChangeAt Go.RowKit
set_option linter.unusedVariables false
set_option linter.unusedSimpArgs false
theorem kget2_any {w : World} {p g i kn : Nat} {T : Tab} (h : KAt w p g T i kn) (s : ByteArray) (hs : s.size ≤ 100) (o : Option Ent) (ho : ask T s = o) :
    Calls Tryd.prog 14 #[.pointer (some ⟨p, 0, none⟩), .string s] w fun e w' => e = .returned (.tuple #[.agg #[.string (ent o).key, .int .i64 (ent o).seg, .int .i64 (ent o).at_, .int .i64 (ent o).len, .int .u64 ((ent o).ver : Int), .int .u64 ((ent o).exp : Int), .int .i64 (ent o).size], .bool o.isSome]) ∧ But (fun _ => False) w w' := by
  have := kget_any h s hs
  rw [ho] at this
  exact this
def e0 : Ent := ⟨⟨#[97]⟩, 0, 0, 0, 7, 0, 0⟩
section
variable {w : World}
set_option maxRecDepth 100000 in
set_option maxHeartbeats 1000000 in
theorem up_any (hc : Can w) : Calls Tryd.prog 5 #[] w fun e w' => e = .returned (.bool true) ∧ But (fun _ => False) w w' := by
  have HN := Lib.hid (knew_any w)
  have HC := Lib.hid hc
  have hg0 := good_new
  have ha0 : ask (List.replicate 8 none) e0.key = none := by unfold ask; rw [look_new]
  have hnt : ¬ tight (List.replicate 8 (none : Option Ent)) := by unfold tight; rw [cnt_new]; simp
  have hT : put (List.replicate 8 none) e0 = lay (List.replicate 8 none) e0 := put_wide hnt
  have hask := ask_put hg0 e0 e0.key
  rw [if_pos rfl] at hask
  have hcnt := cnt_put hg0 e0
  rw [ha0, cnt_new] at hcnt
  have hlen : (put (List.replicate 8 none) e0).length = 8 := by rw [hT, lay_length]; simp
  obtain ⟨T1, hT1⟩ : ∃ T1, T1 = put (List.replicate 8 none) e0 := ⟨_, rfl⟩
  rw [← hT1] at hask hcnt hlen
  have HAS := Lib.hid hask
  have HCN := Lib.hid (show cnt T1 = 1 from hcnt)
  have HLN := Lib.hid hlen
  have HT1 := Lib.hid hT1
  clear hask hcnt hlen hT1 hT hnt ha0 hg0 hc
  go_enter Tryd.func5, Tryd.ntmps5
  go_wp2_with fail
  refine HN.out.mono ?_
  rintro e w1 ⟨rfl, hA, hB⟩
  have HP := Lib.hid (kput_any hA e0 (by decide) (by omega))
  have HB1 := Lib.hid hB
  obtain ⟨p, hp⟩ : ∃ p, p = w.heap.size + 1 := ⟨_, rfl⟩
  rw [← hp] at HP ⊢
  have HPP := Lib.hid hp
  clear hA hB hp
  go_wp2_with fail
  refine HP.out.mono ?_
  rintro e w2 ⟨rfl, g2, hA, hg, hB⟩
  rw [← HT1.out] at hA
  have HA2 := Lib.hid hA
  have HB2 := Lib.hid (HB1.out.trans hB (fun j hj h => by have := HPP.out; have h9 := HB1.out.size; rcases h with h | h <;> omega))
  have HG := Lib.hid (show Calls Tryd.prog 14 #[.pointer (some ⟨p, 0, none⟩), .string ⟨#[97]⟩] w2 fun e w' => e = .returned (.tuple #[.agg #[.string ⟨#[97]⟩, .int .i64 0, .int .i64 0, .int .i64 0, .int .u64 7, .int .u64 0, .int .i64 0], .bool true]) ∧ But (fun _ => False) w2 w' from kget2_any hA e0.key (by decide) (some e0) HAS.out)
  clear hA hg hB HP
  go_wp2_with fail
  refine HG.out.mono ?_
  rintro e w3 ⟨rfl, hB⟩
  have HA3 := Lib.hid (HA2.out.but hB (fun h => h) (fun h => h))
  have HB3 := Lib.hid (HB2.out.trans hB (fun j hj h => h))
  clear hB HG HA2 HB2
  have HX := Lib.hid (show Blk (w3.alloc (.cells (ecells zero).toArray 32)) w3.heap.size 32 (ecells zero).toArray from Blk.new _ _ _)
  have HX0 := Lib.hid (blk_set0 (vs := ecells e0) HX.out (by rw [ecells_length, ecells_length]))
  have HBB := Lib.hid (show But (fun k => k = w3.heap.size) w3 ((w3.alloc (.cells (ecells zero).toArray 32)).setCells w3.heap.size 0 (ecells e0)) from ((But.refl (fun k => k = w3.heap.size) w3).alloc _).trans' (but_setCells _ _ _ _))
  have HA4 := Lib.hid (HA3.out.but HBB.out (fun e => by have := HA3.out.blk.lt; omega) (fun e => by have := HA3.out.row.lt; omega))
  have HB4 := Lib.hid (HB3.out.trans HBB.out (fun j hj h => by have := HB3.out.size; omega))
  have HY := Lib.hid (show ((w3.alloc (.cells (ecells zero).toArray 32)).setCells w3.heap.size 0 (ecells e0)).cell? ⟨w3.heap.size, 4, none⟩ = some (.int .u64 7) from HX0.out.cell 4)
  clear HBB
  go_wp2_with (refine wpList_store_mid rfl 32 _ _ rfl w3.heap.size 0 (ecells e0).toArray rfl rfl (blk_there0 HX.out (by rw [ecells_length]; simp [ecells_length])) (by simp only [List.size_toArray, ecells_length]; exact entry_size) (all_oneCell_toArray (ecells_one e0)) ?_
               change wpList _ _ _ _ _ ((w3.alloc (.cells (ecells zero).toArray 32)).setCells w3.heap.size 0 (ecells e0))
               generalize (w3.alloc (.cells (ecells zero).toArray 32)).setCells w3.heap.size 0 (ecells e0) = w4 at HX0 HA4 HB4 HY ⊢
               have y0 := HY.out)
  have HPL := Lib.hid (kplaces_any HA4.out (HC.out.but HB4.out (fun _ _ h => h)))
  rw [HLN.out] at HPL
  refine HPL.out.mono ?_
  rintro e w5 ⟨rfl, -, hB⟩
  have hA5 := HA4.out.but hB (fun h => h) (fun h => h)
  have HB5 := Lib.hid (HB4.out.trans hB (fun j hj h => h))
  have HL := Lib.hid (klen_any hA5)
  rw [HCN.out] at HL
  clear hB hA5 HPL
  go_wp2_with fail
  refine HL.out.mono ?_
  rintro e w6 ⟨rfl, rfl⟩
  go_wp2_with fail
  go_ret
  exact ⟨rfl, HB5.out⟩
end
end Go.Proofs.YtabclecfamkanaaDoor.Key
