/- The document's reader of requests: flags and texts. -/
import Derived.Test.YtbdbbnpkekcefaaCmdWalk
namespace Go.Proofs.Ytbdbbnpkekcefaa.Cmd
open Go.Proofs.Ytbdbbnpkekcefaa.Mem Go.Proofs.Ytbdbbnpkekcefaa.Pack
open Go.ChangeShapes Go.WideShapes Go.ChangeAt Go.RowKit
set_option linter.unusedVariables false
set_option linter.unusedSimpArgs false

structure PP (p r bd : Nat) (w : World) (P : Pos) (bad : Bool) : Prop where
  blk : Blk w p 78 #[.pointer (some ⟨r, 0, none⟩), .bool bad]
  rd : RfP r bd w P
  ne : p ≠ r
  lp : bd ≤ p
  lr : bd ≤ r
  zs : Bytes P.zs
section
variable {p r bd : Nat} {w w' : World} {P P' : Pos} {bad bad' : Bool}
theorem PP.read (h : PP p r bd w P bad) (hr : RfP r bd w' P') (hb : But (fun k => k = r) w w') (hz : Bytes P'.zs) : PP p r bd w' P' bad :=
  ⟨h.blk.but hb h.ne, hr, h.ne, h.lp, h.lr, hz⟩
theorem PP.set (h : PP p r bd w P bad) (bad' : Bool) : PP p r bd (w.setCell ⟨p, 1, none⟩ (.bool bad')) P bad' := by
  have k : But (fun k => k = p) w (w.setCell ⟨p, 1, none⟩ (.bool bad')) := (But.refl (fun k => k = p) w).setCell (p := ⟨p, 1, none⟩) rfl _
  have hlp := h.lp
  exact ⟨h.blk.set_ 1 (.bool bad'), Rf.but (S := fun k => k = p) h.rd k (fun e => h.ne e.symm) (fun k hk e => by omega), h.ne, h.lp, h.lr, h.zs⟩
theorem PP.other {S : Nat → Prop} (h : PP p r bd w P bad) (hb : But S w w') (hp : ¬ S p) (hr : ¬ S r) (hd : ∀ k, k < bd → ¬ S k) : PP p r bd w' P bad :=
  ⟨h.blk.but hb hp, Rf.but (S := S) h.rd hb hr hd, h.ne, h.lp, h.lr, h.zs⟩
theorem PP.new (h : PP p r bd w P bad) (hb : But (fun _ => False) w w') : PP p r bd w' P bad := h.other hb (fun e => e) (fun e => e) (fun _ _ e => e)
theorem PP.c0 (h : PP p r bd w P bad) : w.cell? ⟨p, 0, none⟩ = some (.pointer (some ⟨r, 0, none⟩)) := (h.blk.cell 0).trans rfl
theorem PP.c1 (h : PP p r bd w P bad) : w.cell? ⟨p, 1, none⟩ = some (.bool bad) := (h.blk.cell 1).trans rfl
theorem PP.f1 (h : PP p r bd w P bad) : w.frozen? ⟨p, 1, none⟩ = false := h.blk.frozen 1
theorem PP.ltp (h : PP p r bd w P bad) : p < w.heap.size := h.blk.lt
theorem PP.ltr (h : PP p r bd w P bad) : r < w.heap.size := World.block_lt_of_cell? w ⟨r, 2, none⟩ (Rf.short h.rd)
def Both (p r k : Nat) : Prop := k = p ∨ k = r
theorem but_r (hb : But (fun k => k = r) w w') : But (Both p r) w w' := hb.mono (fun _ _ e => .inr e)
theorem but_p (u : Value) : But (Both p r) w (w.setCell ⟨p, 1, none⟩ u) := (But.refl (Both p r) w).setCell (p := ⟨p, 1, none⟩) (.inl rfl) u
end
theorem cast_lt (n m : Nat) : decide ((n : Int) < (m : Int)) = decide (n < m) := decide_eq_decide.2 (by omega)
set_option maxRecDepth 100000 in
set_option maxHeartbeats 1000000 in
theorem pflag_any (p r bd : Nat) (P : Pos) (bad : Bool) (w : World) (h : PP p r bd w P bad) : Calls Try.prog 29 #[.pointer (some ⟨p, 0, none⟩)] w fun e w' => e = .returned (.bool (isDel P)) ∧ PP p r bd w' (P.skip 1) (bad || badFlag P) ∧ But (Both p r) w w' := by
  have k := rfP_number r bd P 1 (by omega) (by omega) w h.rd
  have c0 := h.c0
  have hd : isDel P = (((P.num 1 : Nat) : Int) == 1) := by
    unfold isDel; rw [Bool.eq_iff_iff]; simp; omega
  have hf : badFlag P = decide ((1 : Int) < ((P.num 1 : Nat) : Int)) := (cast_lt 1 _).symm
  rw [hd, hf]
  have H := Lib.hid h
  have hz := skip_bytes h.zs 1
  obtain ⟨n, hn⟩ : ∃ n, n = P.num 1 := ⟨_, rfl⟩
  obtain ⟨Q, hQ⟩ : ∃ Q, Q = P.skip 1 := ⟨_, rfl⟩
  rw [← hn, ← hQ] at k
  rw [← hQ] at hz
  rw [← hn, ← hQ]
  clear hn hd hQ hf h
  go_enter Try.func29, Try.ntmps29
  go_wp2_with fail
  refine k.mono ?_
  rintro e w1 ⟨rfl, hr, hb⟩
  have h1 := H.out.read hr hb hz
  have c1 := h1.c1
  have f1 := h1.f1
  have HB := Lib.hid (but_r (p := p) hb)
  have H1 := Lib.hid h1
  clear k c0 hr hb hz h1
  cases bad
  · by_cases hg : (1 : Int) < (n : Int)
    · have dg : decide ((1 : Int) < (n : Int)) = true := decide_eq_true hg
      have DG := Lib.hid dg
      go_wp2_with fail
      go_ret
      exact ⟨rfl, by first | exact H1.out.set true | (rw [DG.out]; exact H1.out.set true) | (rw [DG.out, DM.out]; exact H1.out.set true), HB.out.trans' (but_p _)⟩
    · have dg : decide ((1 : Int) < (n : Int)) = false := decide_eq_false hg
      have DG := Lib.hid dg
      go_wp2_with fail
      go_ret
      exact ⟨rfl, by first | exact H1.out.set _ | (rw [DG.out]; exact H1.out.set false) | (rw [DG.out, DM.out]; exact H1.out.set false) | (rw [DG.out, DM.out, show decide (s.size < least) = false from decide_eq_false (by omega), show decide (most < s.size) = false from decide_eq_false (by omega)]; exact H1.out.set false), HB.out.trans' (but_p _)⟩
  · go_wp2_with fail
    go_ret
    exact ⟨rfl, by first | exact H1.out.set true | (rw [DG.out]; exact H1.out.set true) | (rw [DG.out, DM.out]; exact H1.out.set true), HB.out.trans' (but_p _)⟩
set_option maxRecDepth 100000 in
set_option maxHeartbeats 1000000 in
theorem ptext_any (p r bd : Nat) (P : Pos) (bad : Bool) (least most : Nat) (w : World) (h : PP p r bd w P bad) : Calls Try.prog 28 #[.pointer (some ⟨p, 0, none⟩), .int .i64 (least : Int), .int .i64 (most : Int)] w fun e w' => e = .returned (.string P.txt) ∧ PP p r bd w' P.past (bad || badText least most P) ∧ But (Both p r) w w' := by
  have k := rfP_text r bd P h.zs w h.rd
  have c0 := h.c0
  have hf : badText least most P = (decide ((P.txt.size : Int) < (least : Int)) || decide ((most : Int) < (P.txt.size : Int))) := by rw [cast_lt, cast_lt]; rfl
  rw [hf]
  have H := Lib.hid h
  have hz := past_bytes h.zs
  obtain ⟨s, hn⟩ : ∃ n, n = P.txt := ⟨_, rfl⟩
  obtain ⟨Q, hQ⟩ : ∃ Q, Q = P.past := ⟨_, rfl⟩
  rw [← hn, ← hQ] at k
  rw [← hQ] at hz
  rw [← hn, ← hQ]
  clear hn hQ hf h
  go_enter Try.func28, Try.ntmps28
  go_wp2_with fail
  refine k.mono ?_
  rintro e w1 ⟨rfl, hr, hb⟩
  have h1 := H.out.read hr hb hz
  have c1 := h1.c1
  have f1 := h1.f1
  have HB := Lib.hid (but_r (p := p) hb)
  have H1 := Lib.hid h1
  clear k c0 hr hb hz h1
  cases bad
  · by_cases hg : (s.size : Int) < (least : Int)
    · have dg : decide ((s.size : Int) < (least : Int)) = true := decide_eq_true hg
      have DG := Lib.hid dg
      go_wp2_with fail
      go_ret
      exact ⟨rfl, by first | exact H1.out.set true | (rw [DG.out]; exact H1.out.set true) | (rw [DG.out, DM.out]; exact H1.out.set true), HB.out.trans' (but_p _)⟩
    · have dg : decide ((s.size : Int) < (least : Int)) = false := decide_eq_false hg
      have DG := Lib.hid dg
      by_cases hm : (most : Int) < (s.size : Int)
      · have dm : decide ((most : Int) < (s.size : Int)) = true := decide_eq_true hm
        have DM := Lib.hid dm
        go_wp2_with fail
        go_ret
        exact ⟨rfl, by first | exact H1.out.set true | (rw [DG.out]; exact H1.out.set true) | (rw [DG.out, DM.out]; exact H1.out.set true), HB.out.trans' (but_p _)⟩
      · have dm : decide ((most : Int) < (s.size : Int)) = false := decide_eq_false hm
        have DM := Lib.hid dm
        go_wp2_with fail
        go_ret
        exact ⟨rfl, by first | exact H1.out.set _ | (rw [DG.out]; exact H1.out.set false) | (rw [DG.out, DM.out]; exact H1.out.set false) | (rw [DG.out, DM.out, show decide (s.size < least) = false from decide_eq_false (by omega), show decide (most < s.size) = false from decide_eq_false (by omega)]; exact H1.out.set false), HB.out.trans' (but_p _)⟩
  · go_wp2_with fail
    go_ret
    exact ⟨rfl, by first | exact H1.out.set true | (rw [DG.out]; exact H1.out.set true) | (rw [DG.out, DM.out]; exact H1.out.set true), HB.out.trans' (but_p _)⟩
/- Beside the reader two blocks: what is read is stored into the one, and at the end all of it into the other. -/
structure Pdg (p r bd : Nat) (t : TypeId) (R B : Nat) (zs : Array Value) (w0 w : World) (P : Pos) (bad : Bool) (cs : Array Value) : Prop where
  pp : PP p r bd w P bad
  res : Blk w R t zs
  box : Blk w B t cs
  but : But (Both p r) w0 w
  lowR : w0.heap.size ≤ R
  lowB : w0.heap.size ≤ B
  ne : R ≠ B
  nR : R ≠ p ∧ R ≠ r ∧ bd ≤ R
  nB : B ≠ p ∧ B ≠ r ∧ bd ≤ B
section
variable {p r bd : Nat} {t : TypeId} {R B : Nat} {zs cs cs' : Array Value} {w0 w w' : World} {P P' : Pos} {bad bad' : Bool}
theorem Pdg.call (h : Pdg p r bd t R B zs w0 w P bad cs) (hp : PP p r bd w' P' bad') (hb : But (Both p r) w w') : Pdg p r bd t R B zs w0 w' P' bad' cs :=
  ⟨hp, h.res.but hb (fun e => by have := h.nR; rcases e with e | e <;> omega), h.box.but hb (fun e => by have := h.nB; rcases e with e | e <;> omega), h.but.trans' hb, h.lowR, h.lowB, h.ne, h.nR, h.nB⟩
theorem Pdg.read (h : Pdg p r bd t R B zs w0 w P bad cs) (hr : RfP r bd w' P') (hb : But (fun k => k = r) w w') (hz : Bytes P'.zs) : Pdg p r bd t R B zs w0 w' P' bad cs :=
  h.call (h.pp.read hr hb hz) (but_r hb)
theorem Pdg.mark (h : Pdg p r bd t R B zs w0 w P bad cs) (bad' : Bool) : Pdg p r bd t R B zs w0 (w.setCell ⟨p, 1, none⟩ (.bool bad')) P bad' cs :=
  h.call (h.pp.set bad') (but_p _)
theorem Pdg.new (h : Pdg p r bd t R B zs w0 w P bad cs) (hb : But (fun _ => False) w w') : Pdg p r bd t R B zs w0 w' P bad cs :=
  h.call (h.pp.new hb) (hb.mono (fun _ _ e => e.elim))
theorem Pdg.set (h : Pdg p r bd t R B zs w0 w P bad cs) (i : Nat) (u : Value) (hcs : cs.setIfInBounds i u = cs') : Pdg p r bd t R B zs w0 (w.setCell ⟨B, i, none⟩ u) P bad cs' := by
  have k : But (fun k => k = B) w (w.setCell ⟨B, i, none⟩ u) := (But.refl (fun k => k = B) w).setCell (p := ⟨B, i, none⟩) rfl u
  have hB := h.lowB
  have hn := h.nB
  refine ⟨h.pp.other k (fun e => by omega) (fun e => by omega) (fun j hj e => by omega), h.res.but k h.ne, hcs ▸ h.box.set_ i u, h.but.trans k (fun j hj e => by omega), h.lowR, h.lowB, h.ne, h.nR, h.nB⟩
theorem Pdg.cell (h : Pdg p r bd t R B zs w0 w P bad cs) (i : Nat) {u : Value} (hu : cs[i]? = some u) : w.cell? ⟨B, i, none⟩ = some u := (h.box.cell i).trans hu
theorem Pdg.frozen (h : Pdg p r bd t R B zs w0 w P bad cs) (i : Nat) : w.frozen? ⟨B, i, none⟩ = false := h.box.frozen i
theorem Pdg.start (h : PP p r bd w0 P bad) (cs : Array Value) : Pdg p r bd t w0.heap.size (w0.heap.size + 1) cs w0 ((w0.alloc (.cells cs t)).alloc (.cells cs t)) P bad cs := by
  have k : But (fun _ => False) w0 ((w0.alloc (.cells cs t)).alloc (.cells cs t)) := ((But.refl _ w0).alloc _).alloc _
  obtain ⟨h1, h2⟩ := Blk.two w0 cs cs t t
  have hp := h.ltp
  have hr := h.ltr
  have hl := h.lp
  exact ⟨h.new k, h1, h2, k.mono (fun _ _ e => e.elim), Nat.le_refl _, by omega, by omega, by omega, by omega⟩
theorem Pdg.begun (h : PP p r bd w0 P bad) (cs cs' : Array Value) : Pdg p r bd t w0.heap.size (w0.heap.size + 1) cs w0 ((w0.alloc (.cells cs t)).alloc (.cells cs' t)) P bad cs' := by
  have k : But (fun _ => False) w0 ((w0.alloc (.cells cs t)).alloc (.cells cs' t)) := ((But.refl _ w0).alloc _).alloc _
  obtain ⟨h1, h2⟩ := Blk.two w0 cs cs' t t
  have hp := h.ltp
  have hr := h.ltr
  have hl := h.lp
  exact ⟨h.new k, h1, h2, k.mono (fun _ _ e => e.elim), Nat.le_refl _, by omega, by omega, by omega, by omega⟩
theorem Pdg.last (h : Pdg p r bd t R B zs w0 w P bad cs) (cs' : Array Value) : PP p r bd (w.setRow R cs') P bad ∧ But (Both p r) w0 (w.setRow R cs') := by
  have k : But (fun k => k = R) w (w.setRow R cs') := but_setRow (fun k => k = R) (But.refl _ w) (.inl rfl) cs'
  have hR := h.lowR
  have hn := h.nR
  exact ⟨h.pp.other k (fun e => by omega) (fun e => by omega) (fun j hj e => by omega), but_setRow (Both p r) h.but (.inr h.lowR) cs'⟩
end
end Go.Proofs.Ytbdbbnpkekcefaa.Cmd
