/- The document's Do: what is done: words. MADE BY gen-do.py -/
import Derived.Test.YtiaaadeenbjciaaRefStore
namespace Go.Proofs.Ytiaaadeenbjciaa.Disk
open Go.Proofs.Ytiaaadeenbjciaa Go.Proofs.Ytiaaadeenbjciaa.Mem
open Go.ChangeShapes Go.WideShapes Go.ChangeAt Go.RowKit
open Go.Proofs (encStr)
set_option linter.unusedVariables false
set_option linter.unusedSimpArgs false
section
variable {w w' : World} {rp : Nat} {S : St} {lv : Value} {rs : List (Nm × REnt)} {pl : Bool} {lf kp : Int} {G : Nat → Prop}
theorem RAt.cellsAt {g n cl : Nat} (h : RAt w rp S (.slice (some ⟨g, 0, none⟩) n cl) rs pl lf kp) {k : Nat} {x : Nm × REnt} (hx : rs[k]? = some x) :
    w.cell? ⟨g, k * 3, none⟩ = some (encStr x.1) ∧ w.cell? ⟨g, k * 3 + 1, none⟩ = some x.2.v ∧ w.cell? ⟨g, k * 3 + 2, none⟩ = some (.int .i64 x.2.synced) ∧ (∀ j, w.frozen? ⟨g, j, none⟩ = false) ∧ g < w.heap.size := by
  obtain ⟨a, cap, e1, _, _, hc⟩ := h.shape
  obtain ⟨g', e2, c0, c1, c2, f, hg⟩ := hc k x hx
  injection e1 with e3
  rw [e2] at e3
  injection e3 with e3
  injection e3 with e3
  subst e3
  exact ⟨c0, c1, c2, f, hg⟩
theorem upd_here (h : RAt w rp S lv rs pl lf kp) {n : Nm} {e : REnt} (hl : look n rs = some e) (f : File → File) : upd n f S.files = S.files.set (pos n rs) (n, f e.file) := by
  have hlS : look n S.files = some e.file := by rw [h.look, hl]; rfl
  have hp : pos n S.files = pos n rs := by rw [← h.files, pos_mapv]
  rw [upd_pos h.rise hlS, hp]
/- What Do says, and what it makes of the disk. -/
def Did (w : World) (rp : Nat) (lv : Value) (rs : List (Nm × REnt)) (R : Int × St) (x : Ending) (w' : World) : Prop := x = .returned (.int .i64 R.1) ∧ Turned w rp lv rs R.2 w'
theorem did_crash {W w2 : World} {rs2 : List (Nm × REnt)} {lf2 : Int} (f : St → St) (hn : now S = some kp) (hb : But (fun _ => False) w W) (hA : RAt w2 rp (crash kp S) lv rs2 false lf2 kp) (hb2 : But (rfoot rp lv rs) W w2) (hf : ∀ j, rfoot rp lv rs2 j → rfoot rp lv rs j ∨ W.heap.size ≤ j) :
    Did w rp lv rs (effect S f) (.returned (.int .i64 15)) w2 := by
  rw [effect_crash hn]
  exact ⟨rfl, _, _, _, _, _, hA, (hb.mono (fun _ _ e => e.elim)).trans hb2 (fun _ _ h => h), fun k hk => (hf k hk).imp id (fun e => Nat.le_trans hb.size e)⟩
theorem did_done {W w2 w3 : World} {S3 : St} (f : St → St) (hn : now S = none) (hb : But (fun _ => False) w W) (hb2 : But (fun k => k = rp) W w2) (h3 : Turned w2 rp lv rs S3 w3) (hS : S3 = f (stepS S)) :
    Did w rp lv rs (effect S f) (.returned (.int .i64 0)) w3 := by
  rw [effect_done hn, ← hS]
  exact ⟨rfl, h3.behind ((hb.mono (fun _ _ e => e.elim)).trans hb2 (fun _ _ h => h))⟩
end
end Go.Proofs.Ytiaaadeenbjciaa.Disk
