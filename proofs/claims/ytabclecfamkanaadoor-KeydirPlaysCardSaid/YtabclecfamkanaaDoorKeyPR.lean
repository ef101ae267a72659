/- What holds behind k deeds of KeydirPlays: the program's table and the document's are one. -/
import Derived.Test.YtabclecfamkanaaDoorKeyKR
import Derived.Test.YtabclecfamkanaaDoorKeyRefTexts
import Derived.Laws.Cover1
namespace Go.Proofs.YtabclecfamkanaaDoor.Key
open Go.Proofs.YtabclecfamkanaaDoor.Mem Go.Proofs.YtabclecfamkanaaDoor.Fnv
open Go.ChangeShapes Go.WideShapes Go.ChangeAt Go.RowKit
set_option linter.unusedVariables false
set_option linter.unusedSimpArgs false
theorem less_cmp : ∀ a b : List UInt8, (Op.bytesLess a b || a == b) = decide (cmp a b ≤ 0)
  | [], [] => rfl
  | [], _ :: _ => by unfold cmp; rw [Lib.compareBytes, Op.bytesLess]; rfl
  | _ :: _, [] => by unfold cmp; rw [Lib.compareBytes, Op.bytesLess]; rfl
  | x :: a, y :: b => by
    have ih := less_cmp a b
    unfold cmp at ih ⊢
    rw [Lib.compareBytes, Op.bytesLess]
    have hb : (x :: a == y :: b) = ((x == y) && (a == b)) := rfl
    rw [hb]
    simp only [UInt8.lt_iff_toNat_lt]
    by_cases h1 : x.toNat < y.toNat
    · rw [if_pos h1]; simp [h1]
    · have e1 : decide (x.toNat < y.toNat) = false := decide_eq_false h1
      rw [if_neg h1, e1, Bool.false_or]
      by_cases h2 : y.toNat < x.toNat
      · have hne : (x == y) = false := beq_eq_false_iff_ne.2 (fun e => by rw [e] at h2; omega)
        rw [if_pos h2, hne]
        rfl
      · have heq : x = y := UInt8.toNat_inj.1 (by omega)
        subst heq
        rw [if_neg h2, beq_self_eq_true, Bool.true_and, Bool.true_and]
        exact ih
theorem rent_neq (a b : Ent) (w : World) : (binOp .neq 38 (ev a) (ev b)).run Tryd.prog w = .ok (.bool (!decide (a = b))) w := by
  have h : (Op.equal 38 (ev a) (ev b)).run Tryd.prog w = .ok (decide (a = b)) w := by
    have h1 : Tryd.prog.stoodInHeld 38 = false := by kernel_rfl
    obtain ⟨k0, k3, k4⟩ := agg_plain w
    unfold Op.equal ev
    rw [show Op.maxDepth = 9997 + 1 + 1 + 1 from rfl, run_equalIn_struct _ _ _ _ _ (by kernel_rfl) h1]
    obtain ⟨fs, hfs⟩ : ∃ fs, (Tryd.prog.fieldsOf 38).toList = fs := ⟨_, rfl⟩
    rw [hfs]
    simp [Program.fieldsOf, Tryd.underlying38] at hfs
    subst hfs
    rw [ent_key]
    refine eq_field (by decide) (part_one k4 rfl) (part_one k4 rfl) (run_equalIn_string _ _ _ _ _ Tryd.underlying9) ?_
    refine eq_field (by decide) (part_agg (Tryd.isAgg29 w) (Tryd.sizeOf29 w)) (part_agg (Tryd.isAgg29 w) (Tryd.sizeOf29 w)) (spot_deep 9997 _ _ _ _ _ _ w) ?_
    refine eq_field (by decide) (part_one k3 rfl) (part_one k3 rfl) (run_equalIn_int _ _ _ _ _ _ _ Tryd.underlying30) ?_
    refine eq_field (by decide) (part_one k3 rfl) (part_one k3 rfl) (run_equalIn_int _ _ _ _ _ _ _ Tryd.underlying30) ?_
    exact eq_field (by decide) (part_one k0 rfl) (part_one k0 rfl) (run_equalIn_int _ _ _ _ _ _ _ Tryd.underlying3) eq_end
  unfold ev at h ⊢
  simp [binOp, h]
structure PR (W : World) (p rp k : Nat) (wr : World) (g : Nat) (T : Tab) (gl gu : Nat) (X : List Ent) (n : Nat) : Prop where
  tab : KAt wr p g T k (cnt T)
  ref : RLo wr rp gl gu T X n
  but : But (fun _ => False) W wr
  lows : W.heap.size ≤ p ∧ W.heap.size ≤ g ∧ W.heap.size ≤ rp ∧ W.heap.size ≤ gl ∧ W.heap.size ≤ gu
section
variable {W wr w' : World} {p rp k g gl gu n : Nat} {T : Tab} {X : List Ent}
theorem PR.step_but {F : Nat → Prop} (h : PR W p rp k wr g T gl gu X n) (hb : But F wr w') (hF : ∀ j, j < wr.heap.size → ¬ F j) : PR W p rp k w' g T gl gu X n where
  tab := h.tab.but hb (hF _ h.tab.blk.lt) (hF _ h.tab.row.lt)
  ref := h.ref.but hb (hF _ h.ref.blk.lt) (hF _ h.ref.lrow.lt) (hF _ h.ref.urow.lt)
  but := h.but.trans hb (fun j hj hf => by
    rcases Nat.lt_or_ge j wr.heap.size with h1 | h1
    · exact hF j h1 hf
    · have := h.but.size; omega)
  lows := h.lows
/- No block of the one is one of the other's. -/
theorem RLo.past (h : RLo wr rp gl gu T X n) {p g : Nat} {cs ds : Array Value} (hp : Blk wr p 57 cs) (hg : Blk wr g 59 ds) (hb : But (fun j => j = p ∨ j = g) wr w') : RLo w' rp gl gu T X n := by
  refine h.but hb ?_ ?_ ?_
  · rintro (e | e)
    · exact h.blk.ne_ hp (by decide) e
    · exact h.blk.ne_ hg (by decide) e
  · rintro (e | e)
    · exact h.lrow.ne_ hp (by decide) e
    · exact h.lrow.ne_ hg (by decide) e
  · rintro (e | e)
    · exact h.urow.ne_ hp (by decide) e
    · exact h.urow.ne_ hg (by decide) e
theorem KAt.past {i kn : Nat} {T2 : Tab} (h : KAt wr p g T2 i kn) (hr : RLo wr rp gl gu T X n) (hb : But (fun j => j = rp ∨ j = gl ∨ j = gu) wr w') : KAt w' p g T2 i kn := by
  refine h.but hb ?_ ?_
  · rintro (e | e | e)
    · exact h.blk.ne_ hr.blk (by decide) e
    · exact h.blk.ne_ hr.lrow (by decide) e
    · exact h.blk.ne_ hr.urow (by decide) e
  · rintro (e | e | e)
    · exact h.row.ne_ hr.blk (by decide) e
    · exact h.row.ne_ hr.lrow (by decide) e
    · exact h.row.ne_ hr.urow (by decide) e
end
set_option maxRecDepth 100000 in
set_option maxHeartbeats 400000 in
theorem plays_away (W : World) (a : Option Addr) (n c : Nat) (h : 150 < n) (hn : n ≤ 9223372036854775807) (hc : Can W) :
    Calls Tryd.prog 3 #[.slice a n c] W fun e w' => e = .returned (.bool true) ∧ But (fun _ => False) W w' := by
  have HU := Lib.hid (up_any hc)
  have hi : (150 : Int) < (n : Int) := by omega
  clear h hc
  go_enter Tryd.func3, Tryd.ntmps3
  go_wp2_with fail
  refine HU.out.mono ?_
  rintro e w1 ⟨rfl, hB1⟩
  have HN := Lib.hid (knew_any w1)
  have HB1 := Lib.hid hB1
  clear hB1 HU
  go_wp2_with fail
  refine HN.out.mono ?_
  rintro e w2 ⟨rfl, hA, hB⟩
  have HB2 := Lib.hid (HB1.out.trans hB (fun j hj h => h))
  clear hA hB HN HB1
  go_wp2_with fail
  go_ret
  exact ⟨rfl, HB2.out⟩
end Go.Proofs.YtabclecfamkanaaDoor.Key
