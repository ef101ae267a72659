/- Contract of disk's effect: it is counted, or the disk goes down. -/
import Derived.Test.YtiaaadeenbjciaaDiskDown
namespace Go.Proofs.Ytiaaadeenbjciaa.Disk
open Go.Proofs.Ytiaaadeenbjciaa.Mem
open Go.ChangeShapes Go.WideShapes Go.ChangeAt Go.RowKit
set_option linter.unusedVariables false
def stepS (S : St) : St := { S with effects := wrap64 (S.effects + 1), plan := S.plan.map fun x => (x.1 - 1, x.2) }
/- Is the plan for now? -/
def now (S : St) : Option Int := match S.plan with | some (l, k) => if l = 0 then some k else none | none => none
theorem effect_done {S : St} (h : now S = none) (k : St → St) : effect S k = (0, k (stepS S)) := by
  obtain ⟨c, f, e, pl, d⟩ := S
  rcases pl with _ | ⟨l, kp⟩
  · rfl
  · unfold now at h
    simp only at h
    have hl : l ≠ 0 := by
      intro e0
      rw [if_pos e0] at h
      cases h
    unfold effect
    simp only [if_neg hl]
    rfl
theorem effect_crash {S : St} {kp : Int} (h : now S = some kp) (k : St → St) : effect S k = (15, crash kp S) := by
  obtain ⟨c, f, e, pl, d⟩ := S
  rcases pl with _ | ⟨l, kp'⟩
  · cases h
  · unfold now at h
    simp only at h
    split at h
    · next hl =>
      injection h with h
      subst h
      unfold effect
      simp only [if_pos hl]
    · cases h
section
variable {w : World} {p mb : Nat} {S : St} {cr : Option Addr} {es : List (Nm × Ent)} {D : DataW Nat}
set_option maxRecDepth 100000 in
set_option maxHeartbeats 1000000 in
theorem effect_yes (h : At w p S mb cr es D) (hd : S.down = false) (hn : now S = none) :
    Calls Try.prog 32 #[.pointer (some ⟨p, 0, none⟩)] w fun e w' => e = .returned .nilIface ∧ At w' p (stepS S) mb cr es D ∧ But (fun k => k = p ∨ ∃ a, cr = some a ∧ a.block = k) w w' := by
  have c2 : w.cell? ⟨p, 2, none⟩ = some (.int .i64 S.effects) := h.blk.cell 2
  have f2 := h.blk.frozen 2
  have c3 : w.cell? ⟨p, 3, none⟩ = some (.pointer cr) := h.blk.cell 3
  have hpl := h.plan hd
  rcases hS : S.plan with _ | ⟨l, kp⟩
  · rw [hS] at hpl
    have hcr : cr = none := hpl
    subst hcr
    have hb0 : But (fun k => k = p) w (w.setCell ⟨p, 2, none⟩ (.int .i64 (wrap64 (S.effects + 1)))) := but_set w p 2 _
    have hfin : At (w.setCell ⟨p, 2, none⟩ (.int .i64 (wrap64 (S.effects + 1)))) p (stepS S) mb none es D := by
      refine h.disk hb0 (fun g hg => ⟨_, _, hg ▸ h.blk, by decide, by decide⟩) rfl (h.blk.set_ 2 _) (fun _ => ?_) (fun a h => by cases h) (fun l k e => ?_)
      · show PlanAt _ (S.plan.map _) none
        rw [hS]; rfl
      · have e' : S.plan.map (fun x : Int × Int => (x.1 - 1, x.2)) = some (l, k) := e
        rw [hS] at e'; cases e'
    have HF := Lib.hid hfin
    clear hfin hS hpl h
    go_enter Try.func32, Try.ntmps32
    go_wp2
    go_ret
    exact ⟨rfl, HF.out, hb0.mono (fun i _ e => .inl e)⟩
  · rw [hS] at hpl
    obtain ⟨b, rfl, hB⟩ := hpl
    have hg := h.good.plan l kp hS
    have hl : l ≠ 0 := by
      intro e0
      unfold now at hn
      rw [hS] at hn
      simp only [if_pos e0] at hn
      cases hn
    have k0 : w.cell? ⟨b, 0, none⟩ = some (.int .i64 l) := hB.cell 0
    have g0 := hB.frozen 0
    have hbp : b ≠ p := hB.ne_ h.blk (by decide)
    have hl0 : (l == 0) = false := by simpa using hl
    have hl1 : 1 ≤ l := by omega
    have hfin : At ((w.setCell ⟨b, 0, none⟩ (.int .i64 (l - 1))).setCell ⟨p, 2, none⟩ (.int .i64 (wrap64 (S.effects + 1)))) p (stepS S) mb (some ⟨b, 0, none⟩) es D ∧
        But (fun k => k = p ∨ ∃ a, some (⟨b, 0, none⟩ : Addr) = some a ∧ a.block = k) w ((w.setCell ⟨b, 0, none⟩ (.int .i64 (l - 1))).setCell ⟨p, 2, none⟩ (.int .i64 (wrap64 (S.effects + 1)))) := by
      have hb1 : But (fun k => k = b ∨ k = p) w ((w.setCell ⟨b, 0, none⟩ (.int .i64 (l - 1))).setCell ⟨p, 2, none⟩ (.int .i64 (wrap64 (S.effects + 1)))) :=
        ((but_set w b 0 _).mono (fun i _ e => .inl e)).trans (but_set _ p 2 _) (fun i _ e => .inr e)
      refine ⟨h.disk hb1 (fun g hg => ?_) rfl ?_ (fun _ => ?_) (fun a e => ?_) (fun l' k' e => ?_), hb1.mono (fun i _ e => ?_)⟩
      · rcases hg with rfl | rfl
        · exact ⟨_, _, hB, by decide, by decide⟩
        · exact ⟨_, _, h.blk, by decide, by decide⟩
      · exact (h.blk.but (but_set w b 0 _) (fun e => hbp e.symm)).set_ 2 _
      · show PlanAt _ (S.plan.map _) _
        rw [hS]
        exact ⟨b, rfl, (hB.set_ 0 _).but (but_set _ p 2 _) hbp⟩
      · injection e with e
        subst e
        simpa using hB.lt
      · have e' : S.plan.map (fun x : Int × Int => (x.1 - 1, x.2)) = some (l', k') := e
        rw [hS] at e'
        injection e' with e'
        injection e' with e1 e2
        simp only at e1 e2
        omega
      · rcases e with rfl | rfl
        · exact .inr ⟨_, rfl, rfl⟩
        · exact .inl rfl
    have HF := Lib.hid hfin
    clear hfin hS h hB hn hl
    go_enter Try.func32, Try.ntmps32
    go_wp2
    go_ret
    exact ⟨rfl, HF.out⟩
set_option maxRecDepth 100000 in
set_option maxHeartbeats 1000000 in
theorem effect_no (h : At w p S mb cr es D) (hd : S.down = false) {kp : Int} (hn : now S = some kp) (hu : used S ≤ 1000000000) :
    Calls Try.prog 32 #[.pointer (some ⟨p, 0, none⟩)] w fun e w' => e = .returned (.iface 52 (.int .i64 15)) ∧ At w' p (crash kp S) mb cr (mapv (truncE kp) es) D ∧ But (foot p mb cr es) w w' := by
  have c3 : w.cell? ⟨p, 3, none⟩ = some (.pointer cr) := h.blk.cell 3
  have hpl := h.plan hd
  rcases hS : S.plan with _ | ⟨l, kp'⟩
  · unfold now at hn
    rw [hS] at hn
    cases hn
  · rw [hS] at hpl
    obtain ⟨b, rfl, hB⟩ := hpl
    have hg := h.good.plan l kp' hS
    unfold now at hn
    rw [hS] at hn
    simp only at hn
    split at hn
    · next hl =>
      subst hl
      injection hn with hn
      subst hn
      have k0 : w.cell? ⟨b, 0, none⟩ = some (.int .i64 0) := hB.cell 0
      have k1 : w.cell? ⟨b, 1, none⟩ = some (.int .i64 kp') := hB.cell 1
      have hgo := goDown_at h kp' hg.2.2.1 hg.2.2.2 hu
      have HG := Lib.hid hgo
      clear hgo hS h hB hg
      go_enter Try.func32, Try.ntmps32
      go_wp2_with fail
      refine (HG.out).mono ?_
      rintro e w' ⟨rfl, hA, hB⟩
      have HA := Lib.hid hA
      have HB := Lib.hid hB
      clear hA hB HG
      go_wp2
      go_ret
      exact ⟨rfl, HA.out, HB.out⟩
    · cases hn
end
end Go.Proofs.Ytiaaadeenbjciaa.Disk
