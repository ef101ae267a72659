/- The document's op, of any tag. -/
import Derived.Test.YtbdbbnpkekcefaaCmdPOp
namespace Go.Proofs.Ytbdbbnpkekcefaa.Cmd
open Go.Proofs.Ytbdbbnpkekcefaa.Mem Go.Proofs.Ytbdbbnpkekcefaa.Pack
open Go.ChangeShapes Go.WideShapes Go.ChangeAt Go.RowKit
set_option linter.unusedVariables false
set_option linter.unusedSimpArgs false

set_option maxRecDepth 100000 in
set_option maxHeartbeats 2000000 in
theorem pop_any (p r bd : Nat) (P : Pos) (bad : Bool) (tag : Int) (h9 : tag ≠ 9) (w : World) (h : PP p r bd w P bad) :
    Calls Try.prog 27 #[.pointer (some ⟨p, 0, none⟩), .int .i64 tag] w fun e w' => e = .returned (ov (rdOp tag (decide (tag = 8)) P)) ∧ PP p r bd w' (endOp tag (decide (tag = 8)) P) (bad || badOp tag (decide (tag = 8)) P) ∧ But (Both p r) w w' := by
  have b1 := past_bytes h.zs
  have b2 := skip_bytes b1 8
  have b3 := past_bytes b2
  have b4 := skip_bytes b3 8
  have k1 := fun w => ptext_any p r bd P bad 1 64 w
  have k2 := fun w => rfP_number r bd P.past 8 (by omega) (by omega) w
  have k3 := fun w => ptext_any p r bd (P.past.skip 8) (bad || badText 1 64 P) 0 1000 w
  have k4 := fun w => rfP_number r bd ((P.past.skip 8).past) 8 (by omega) (by omega) w
  have h9' : (tag == 9) = false := beq_eq_false_iff_ne.2 h9
  unfold rdOp endOp badOp
  by_cases h7 : tag = 7
  · have h8 : ¬ tag = 8 := by omega
    rw [if_pos h7, if_pos h7, decide_eq_false h8, show (bad || (badText 1 64 P || (decide (tag ≠ 7) && (!false && badText 0 1000 (P.past.skip 8))))) = (bad || badText 1 64 P) by rw [h7]; simp]
    exact pop_get p r bd P P _ P P P bad false _ false tag false false (beq_eq_false_iff_ne.2 h8) h9' (beq_iff_eq.2 h7) _ nothing 0 0 w h k1
  · rw [if_neg h7, if_neg h7]
    have h7' : (tag == 7) = false := beq_eq_false_iff_ne.2 h7
    by_cases h8 : tag = 8
    · rw [decide_eq_true h8, show (bad || (badText 1 64 P || (decide (tag ≠ 7) && (!true && badText 0 1000 (P.past.skip 8))))) = (bad || badText 1 64 P) by simp]
      simp only [if_true]
      exact pop_del p r bd P P _ _ P P bad false _ false tag true true (beq_iff_eq.2 h8) h9' h7' rfl _ nothing _ 0 w h k1 b2 k2
    · rw [decide_eq_false h8, show (bad || (badText 1 64 P || (decide (tag ≠ 7) && (!false && badText 0 1000 (P.past.skip 8))))) = (bad || badText 1 64 P || badText 0 1000 (P.past.skip 8)) by rw [decide_eq_true h7]; simp [Bool.or_assoc]]
      simp only [Bool.false_eq_true, if_false]
      exact pop_put p r bd P P _ _ _ _ bad false _ _ tag false false (beq_eq_false_iff_ne.2 h8) h9' h7' rfl _ _ _ _ w h k1 b2 k2 k3 b4 k4
set_option maxRecDepth 100000 in
set_option maxHeartbeats 2000000 in
theorem pop9_any (p r bd : Nat) (P : Pos) (bad : Bool) (w : World) (h : PP p r bd w P bad) :
    Calls Try.prog 27 #[.pointer (some ⟨p, 0, none⟩), .int .i64 9] w fun e w' => e = .returned (ov (rd9 P)) ∧ PP p r bd w' (end9 P) (bad || bad9 P) ∧ But (Both p r) w w' := by
  have k0 := fun w => pflag_any p r bd P bad w
  have b0 := skip_bytes h.zs 1
  have k1 := fun w => ptext_any p r bd (P.skip 1) (bad || badFlag P) 1 64 w
  have k2 := fun w => rfP_number r bd (P.skip 1).past 8 (by omega) (by omega) w
  have k3 := fun w => ptext_any p r bd ((P.skip 1).past.skip 8) (bad || badFlag P || badText 1 64 (P.skip 1)) 0 1000 w
  have k4 := fun w => rfP_number r bd (((P.skip 1).past.skip 8).past) 8 (by omega) (by omega) w
  have b1 := past_bytes b0
  have b2 := skip_bytes b1 8
  have b3 := past_bytes b2
  have b4 := skip_bytes b3 8
  unfold rd9 end9 bad9 rdOp endOp badOp
  rw [if_neg (show ¬ (9 : Int) = 7 by decide), if_neg (show ¬ (9 : Int) = 7 by decide)]
  obtain ⟨d, hd⟩ : ∃ d, d = isDel P := ⟨_, rfl⟩
  rw [← hd] at k0 ⊢
  clear hd
  cases d
  · simp only [Bool.false_eq_true, if_false]
    rw [show (bad || (badFlag P || (badText 1 64 (P.skip 1) || (decide ((9 : Int) ≠ 7) && (!false && badText 0 1000 ((P.skip 1).past.skip 8)))))) = (bad || badFlag P || badText 1 64 (P.skip 1) || badText 0 1000 ((P.skip 1).past.skip 8)) by simp [Bool.or_assoc]]
    have e := pop_put9 p r bd P (P.skip 1) (P.skip 1).past ((P.skip 1).past.skip 8) ((P.skip 1).past.skip 8).past (((P.skip 1).past.skip 8).past.skip 8) bad (bad || badFlag P) (bad || badFlag P || badText 1 64 (P.skip 1)) (bad || badFlag P || badText 1 64 (P.skip 1) || badText 0 1000 ((P.skip 1).past.skip 8)) 9 false false (by decide) (by decide) (by decide) rfl (P.skip 1).txt ((P.skip 1).past.skip 8).txt ((P.skip 1).past.num 8) (((P.skip 1).past.skip 8).past.num 8) w h k0 k1 b2 k2 k3 b4 k4
    unfold ov
    refine e.mono ?_
    rintro x w' ⟨h1, h2, h3⟩
    refine ⟨?_, h2, h3⟩
    simp only
    rw [h1]
    try rfl
  · simp only [if_true]
    rw [show (bad || (badFlag P || (badText 1 64 (P.skip 1) || (decide ((9 : Int) ≠ 7) && (!true && badText 0 1000 ((P.skip 1).past.skip 8)))))) = (bad || badFlag P || badText 1 64 (P.skip 1)) by simp [Bool.or_assoc]]
    have e := pop_del9 p r bd P (P.skip 1) (P.skip 1).past ((P.skip 1).past.skip 8) P P bad (bad || badFlag P) (bad || badFlag P || badText 1 64 (P.skip 1)) false 9 false true (by decide) (by decide) (by decide) rfl (P.skip 1).txt nothing ((P.skip 1).past.num 8) 0 w h k0 k1 b2 k2
    unfold ov
    refine e.mono ?_
    rintro x w' ⟨h1, h2, h3⟩
    refine ⟨?_, h2, h3⟩
    simp only
    rw [h1]
    try rfl
end Go.Proofs.Ytbdbbnpkekcefaa.Cmd
