/- In one text: The document's reader of requests: flags and texts. The document's Token and op. The document's op, of any tag. -/
import Derived.Test.YtbdbbnpkekcefaaCmdWalk
namespace Go.Proofs.Ytbdbbnpkekcefaa.Cmd
open Go.Proofs.Ytbdbbnpkekcefaa.Mem Go.Proofs.Ytbdbbnpkekcefaa.Pack
open Go.ChangeShapes Go.WideShapes Go.ChangeAt Go.RowKit
set_option linter.unusedVariables false
set_option linter.unusedSimpArgs false

structure PP (p r bd : Nat) (w : World) (P : Pos) (bad : Bool) : Prop where
  blk : Blk w p 78 #[.pointer (some ⟨r, 0, none⟩), .bool bad]
  rd : RfP r bd w P
  ne : p ≠ r
  lp : bd ≤ p
  lr : bd ≤ r
  zs : Bytes P.zs
section
variable {p r bd : Nat} {w w' : World} {P P' : Pos} {bad bad' : Bool}
theorem PP.read (h : PP p r bd w P bad) (hr : RfP r bd w' P') (hb : But (fun k => k = r) w w') (hz : Bytes P'.zs) : PP p r bd w' P' bad :=
  ⟨h.blk.but hb h.ne, hr, h.ne, h.lp, h.lr, hz⟩
theorem PP.set (h : PP p r bd w P bad) (bad' : Bool) : PP p r bd (w.setCell ⟨p, 1, none⟩ (.bool bad')) P bad' := by
  have k : But (fun k => k = p) w (w.setCell ⟨p, 1, none⟩ (.bool bad')) := (But.refl (fun k => k = p) w).setCell (p := ⟨p, 1, none⟩) rfl _
  have hlp := h.lp
  exact ⟨h.blk.set_ 1 (.bool bad'), Rf.but (S := fun k => k = p) h.rd k (fun e => h.ne e.symm) (fun k hk e => by omega), h.ne, h.lp, h.lr, h.zs⟩
theorem PP.other {S : Nat → Prop} (h : PP p r bd w P bad) (hb : But S w w') (hp : ¬ S p) (hr : ¬ S r) (hd : ∀ k, k < bd → ¬ S k) : PP p r bd w' P bad :=
  ⟨h.blk.but hb hp, Rf.but (S := S) h.rd hb hr hd, h.ne, h.lp, h.lr, h.zs⟩
theorem PP.new (h : PP p r bd w P bad) (hb : But (fun _ => False) w w') : PP p r bd w' P bad := h.other hb (fun e => e) (fun e => e) (fun _ _ e => e)
theorem PP.c0 (h : PP p r bd w P bad) : w.cell? ⟨p, 0, none⟩ = some (.pointer (some ⟨r, 0, none⟩)) := (h.blk.cell 0).trans rfl
theorem PP.c1 (h : PP p r bd w P bad) : w.cell? ⟨p, 1, none⟩ = some (.bool bad) := (h.blk.cell 1).trans rfl
theorem PP.f1 (h : PP p r bd w P bad) : w.frozen? ⟨p, 1, none⟩ = false := h.blk.frozen 1
theorem PP.ltp (h : PP p r bd w P bad) : p < w.heap.size := h.blk.lt
theorem PP.ltr (h : PP p r bd w P bad) : r < w.heap.size := World.block_lt_of_cell? w ⟨r, 2, none⟩ (Rf.short h.rd)
def Both (p r k : Nat) : Prop := k = p ∨ k = r
theorem but_r (hb : But (fun k => k = r) w w') : But (Both p r) w w' := hb.mono (fun _ _ e => .inr e)
theorem but_p (u : Value) : But (Both p r) w (w.setCell ⟨p, 1, none⟩ u) := (But.refl (Both p r) w).setCell (p := ⟨p, 1, none⟩) (.inl rfl) u
end
theorem cast_lt (n m : Nat) : decide ((n : Int) < (m : Int)) = decide (n < m) := decide_eq_decide.2 (by omega)
set_option maxRecDepth 100000 in
set_option maxHeartbeats 1000000 in
theorem pflag_any (p r bd : Nat) (P : Pos) (bad : Bool) (w : World) (h : PP p r bd w P bad) : Calls Try.prog 29 #[.pointer (some ⟨p, 0, none⟩)] w fun e w' => e = .returned (.bool (isDel P)) ∧ PP p r bd w' (P.skip 1) (bad || badFlag P) ∧ But (Both p r) w w' := by
  have k := rfP_number r bd P 1 (by omega) (by omega) w h.rd
  have c0 := h.c0
  have hd : isDel P = (((P.num 1 : Nat) : Int) == 1) := by
    unfold isDel; rw [Bool.eq_iff_iff]; simp; omega
  have hf : badFlag P = decide ((1 : Int) < ((P.num 1 : Nat) : Int)) := (cast_lt 1 _).symm
  rw [hd, hf]
  have H := Lib.hid h
  have hz := skip_bytes h.zs 1
  obtain ⟨n, hn⟩ : ∃ n, n = P.num 1 := ⟨_, rfl⟩
  obtain ⟨Q, hQ⟩ : ∃ Q, Q = P.skip 1 := ⟨_, rfl⟩
  rw [← hn, ← hQ] at k
  rw [← hQ] at hz
  rw [← hn, ← hQ]
  clear hn hd hQ hf h
  go_enter Try.func29, Try.ntmps29
  go_wp2_with fail
  refine k.mono ?_
  rintro e w1 ⟨rfl, hr, hb⟩
  have h1 := H.out.read hr hb hz
  have c1 := h1.c1
  have f1 := h1.f1
  have HB := Lib.hid (but_r (p := p) hb)
  have H1 := Lib.hid h1
  clear k c0 hr hb hz h1
  cases bad
  · by_cases hg : (1 : Int) < (n : Int)
    · have dg : decide ((1 : Int) < (n : Int)) = true := decide_eq_true hg
      have DG := Lib.hid dg
      go_wp2_with fail
      go_ret
      exact ⟨rfl, by first | exact H1.out.set true | (rw [DG.out]; exact H1.out.set true) | (rw [DG.out, DM.out]; exact H1.out.set true), HB.out.trans' (but_p _)⟩
    · have dg : decide ((1 : Int) < (n : Int)) = false := decide_eq_false hg
      have DG := Lib.hid dg
      go_wp2_with fail
      go_ret
      exact ⟨rfl, by first | exact H1.out.set _ | (rw [DG.out]; exact H1.out.set false) | (rw [DG.out, DM.out]; exact H1.out.set false) | (rw [DG.out, DM.out, show decide (s.size < least) = false from decide_eq_false (by omega), show decide (most < s.size) = false from decide_eq_false (by omega)]; exact H1.out.set false), HB.out.trans' (but_p _)⟩
  · go_wp2_with fail
    go_ret
    exact ⟨rfl, by first | exact H1.out.set true | (rw [DG.out]; exact H1.out.set true) | (rw [DG.out, DM.out]; exact H1.out.set true), HB.out.trans' (but_p _)⟩
set_option maxRecDepth 100000 in
set_option maxHeartbeats 1000000 in
theorem ptext_any (p r bd : Nat) (P : Pos) (bad : Bool) (least most : Nat) (w : World) (h : PP p r bd w P bad) : Calls Try.prog 28 #[.pointer (some ⟨p, 0, none⟩), .int .i64 (least : Int), .int .i64 (most : Int)] w fun e w' => e = .returned (.string P.txt) ∧ PP p r bd w' P.past (bad || badText least most P) ∧ But (Both p r) w w' := by
  have k := rfP_text r bd P h.zs w h.rd
  have c0 := h.c0
  have hf : badText least most P = (decide ((P.txt.size : Int) < (least : Int)) || decide ((most : Int) < (P.txt.size : Int))) := by rw [cast_lt, cast_lt]; rfl
  rw [hf]
  have H := Lib.hid h
  have hz := past_bytes h.zs
  obtain ⟨s, hn⟩ : ∃ n, n = P.txt := ⟨_, rfl⟩
  obtain ⟨Q, hQ⟩ : ∃ Q, Q = P.past := ⟨_, rfl⟩
  rw [← hn, ← hQ] at k
  rw [← hQ] at hz
  rw [← hn, ← hQ]
  clear hn hQ hf h
  go_enter Try.func28, Try.ntmps28
  go_wp2_with fail
  refine k.mono ?_
  rintro e w1 ⟨rfl, hr, hb⟩
  have h1 := H.out.read hr hb hz
  have c1 := h1.c1
  have f1 := h1.f1
  have HB := Lib.hid (but_r (p := p) hb)
  have H1 := Lib.hid h1
  clear k c0 hr hb hz h1
  cases bad
  · by_cases hg : (s.size : Int) < (least : Int)
    · have dg : decide ((s.size : Int) < (least : Int)) = true := decide_eq_true hg
      have DG := Lib.hid dg
      go_wp2_with fail
      go_ret
      exact ⟨rfl, by first | exact H1.out.set true | (rw [DG.out]; exact H1.out.set true) | (rw [DG.out, DM.out]; exact H1.out.set true), HB.out.trans' (but_p _)⟩
    · have dg : decide ((s.size : Int) < (least : Int)) = false := decide_eq_false hg
      have DG := Lib.hid dg
      by_cases hm : (most : Int) < (s.size : Int)
      · have dm : decide ((most : Int) < (s.size : Int)) = true := decide_eq_true hm
        have DM := Lib.hid dm
        go_wp2_with fail
        go_ret
        exact ⟨rfl, by first | exact H1.out.set true | (rw [DG.out]; exact H1.out.set true) | (rw [DG.out, DM.out]; exact H1.out.set true), HB.out.trans' (but_p _)⟩
      · have dm : decide ((most : Int) < (s.size : Int)) = false := decide_eq_false hm
        have DM := Lib.hid dm
        go_wp2_with fail
        go_ret
        exact ⟨rfl, by first | exact H1.out.set _ | (rw [DG.out]; exact H1.out.set false) | (rw [DG.out, DM.out]; exact H1.out.set false) | (rw [DG.out, DM.out, show decide (s.size < least) = false from decide_eq_false (by omega), show decide (most < s.size) = false from decide_eq_false (by omega)]; exact H1.out.set false), HB.out.trans' (but_p _)⟩
  · go_wp2_with fail
    go_ret
    exact ⟨rfl, by first | exact H1.out.set true | (rw [DG.out]; exact H1.out.set true) | (rw [DG.out, DM.out]; exact H1.out.set true), HB.out.trans' (but_p _)⟩
/- Beside the reader two blocks: what is read is stored into the one, and at the end all of it into the other. -/
structure Pdg (p r bd : Nat) (t : TypeId) (R B : Nat) (zs : Array Value) (w0 w : World) (P : Pos) (bad : Bool) (cs : Array Value) : Prop where
  pp : PP p r bd w P bad
  res : Blk w R t zs
  box : Blk w B t cs
  but : But (Both p r) w0 w
  lowR : w0.heap.size ≤ R
  lowB : w0.heap.size ≤ B
  ne : R ≠ B
  nR : R ≠ p ∧ R ≠ r ∧ bd ≤ R
  nB : B ≠ p ∧ B ≠ r ∧ bd ≤ B
section
variable {p r bd : Nat} {t : TypeId} {R B : Nat} {zs cs cs' : Array Value} {w0 w w' : World} {P P' : Pos} {bad bad' : Bool}
theorem Pdg.call (h : Pdg p r bd t R B zs w0 w P bad cs) (hp : PP p r bd w' P' bad') (hb : But (Both p r) w w') : Pdg p r bd t R B zs w0 w' P' bad' cs :=
  ⟨hp, h.res.but hb (fun e => by have := h.nR; rcases e with e | e <;> omega), h.box.but hb (fun e => by have := h.nB; rcases e with e | e <;> omega), h.but.trans' hb, h.lowR, h.lowB, h.ne, h.nR, h.nB⟩
theorem Pdg.read (h : Pdg p r bd t R B zs w0 w P bad cs) (hr : RfP r bd w' P') (hb : But (fun k => k = r) w w') (hz : Bytes P'.zs) : Pdg p r bd t R B zs w0 w' P' bad cs :=
  h.call (h.pp.read hr hb hz) (but_r hb)
theorem Pdg.mark (h : Pdg p r bd t R B zs w0 w P bad cs) (bad' : Bool) : Pdg p r bd t R B zs w0 (w.setCell ⟨p, 1, none⟩ (.bool bad')) P bad' cs :=
  h.call (h.pp.set bad') (but_p _)
theorem Pdg.new (h : Pdg p r bd t R B zs w0 w P bad cs) (hb : But (fun _ => False) w w') : Pdg p r bd t R B zs w0 w' P bad cs :=
  h.call (h.pp.new hb) (hb.mono (fun _ _ e => e.elim))
theorem Pdg.set (h : Pdg p r bd t R B zs w0 w P bad cs) (i : Nat) (u : Value) (hcs : cs.setIfInBounds i u = cs') : Pdg p r bd t R B zs w0 (w.setCell ⟨B, i, none⟩ u) P bad cs' := by
  have k : But (fun k => k = B) w (w.setCell ⟨B, i, none⟩ u) := (But.refl (fun k => k = B) w).setCell (p := ⟨B, i, none⟩) rfl u
  have hB := h.lowB
  have hn := h.nB
  refine ⟨h.pp.other k (fun e => by omega) (fun e => by omega) (fun j hj e => by omega), h.res.but k h.ne, hcs ▸ h.box.set_ i u, h.but.trans k (fun j hj e => by omega), h.lowR, h.lowB, h.ne, h.nR, h.nB⟩
theorem Pdg.cell (h : Pdg p r bd t R B zs w0 w P bad cs) (i : Nat) {u : Value} (hu : cs[i]? = some u) : w.cell? ⟨B, i, none⟩ = some u := (h.box.cell i).trans hu
theorem Pdg.frozen (h : Pdg p r bd t R B zs w0 w P bad cs) (i : Nat) : w.frozen? ⟨B, i, none⟩ = false := h.box.frozen i
theorem Pdg.start (h : PP p r bd w0 P bad) (cs : Array Value) : Pdg p r bd t w0.heap.size (w0.heap.size + 1) cs w0 ((w0.alloc (.cells cs t)).alloc (.cells cs t)) P bad cs := by
  have k : But (fun _ => False) w0 ((w0.alloc (.cells cs t)).alloc (.cells cs t)) := ((But.refl _ w0).alloc _).alloc _
  obtain ⟨h1, h2⟩ := Blk.two w0 cs cs t t
  have hp := h.ltp
  have hr := h.ltr
  have hl := h.lp
  exact ⟨h.new k, h1, h2, k.mono (fun _ _ e => e.elim), Nat.le_refl _, by omega, by omega, by omega, by omega⟩
theorem Pdg.begun (h : PP p r bd w0 P bad) (cs cs' : Array Value) : Pdg p r bd t w0.heap.size (w0.heap.size + 1) cs w0 ((w0.alloc (.cells cs t)).alloc (.cells cs' t)) P bad cs' := by
  have k : But (fun _ => False) w0 ((w0.alloc (.cells cs t)).alloc (.cells cs' t)) := ((But.refl _ w0).alloc _).alloc _
  obtain ⟨h1, h2⟩ := Blk.two w0 cs cs' t t
  have hp := h.ltp
  have hr := h.ltr
  have hl := h.lp
  exact ⟨h.new k, h1, h2, k.mono (fun _ _ e => e.elim), Nat.le_refl _, by omega, by omega, by omega, by omega⟩
theorem Pdg.last (h : Pdg p r bd t R B zs w0 w P bad cs) (cs' : Array Value) : PP p r bd (w.setRow R cs') P bad ∧ But (Both p r) w0 (w.setRow R cs') := by
  have k : But (fun k => k = R) w (w.setRow R cs') := but_setRow (fun k => k = R) (But.refl _ w) (.inl rfl) cs'
  have hR := h.lowR
  have hn := h.nR
  exact ⟨h.pp.other k (fun e => by omega) (fun e => by omega) (fun j hj e => by omega), but_setRow (Both p r) h.but (.inr h.lowR) cs'⟩
end
end Go.Proofs.Ytbdbbnpkekcefaa.Cmd
namespace Go.Proofs.Ytbdbbnpkekcefaa.Cmd
open Go.Proofs.Ytbdbbnpkekcefaa.Mem Go.Proofs.Ytbdbbnpkekcefaa.Pack
open Go.ChangeShapes Go.WideShapes Go.ChangeAt Go.RowKit
set_option linter.unusedVariables false
set_option linter.unusedSimpArgs false

set_option maxRecDepth 100000 in
set_option maxHeartbeats 2000000 in
theorem ptok_any (p r bd : Nat) (P : Pos) (bad : Bool) (w : World) (h : PP p r bd w P bad) : Calls Try.prog 25 #[.pointer (some ⟨p, 0, none⟩)] w fun e w' => e = .returned (tv (rdTok P)) ∧ PP p r bd w' (endTok P) bad ∧ But (Both p r) w w' := by
  have hs0 := Pdg.start (t := 29) h #[.int .i64 0, .int .u32 0, .int .u32 0, .int .u64 0]
  have b0 := h.zs
  have b1 := skip_bytes b0 1
  have b2 := skip_bytes b1 4
  have b3 := skip_bytes b2 4
  have b4 := skip_bytes b3 8
  have l1 := num1_lt b0
  have l2 := num4_lt b1
  have l3 := num4_lt b2
  have l4 := num8_lt b3
  have k1 := fun w => rfP_number r bd P 1 (by omega) (by omega) w
  have k2 := fun w => rfP_number r bd (P.skip 1) 4 (by omega) (by omega) w
  have k3 := fun w => rfP_number r bd ((P.skip 1).skip 4) 4 (by omega) (by omega) w
  have k4 := fun w => rfP_number r bd (((P.skip 1).skip 4).skip 4) 8 (by omega) (by omega) w
  unfold tv rdTok endTok
  simp only
  clear b0 h
  obtain ⟨n1, hn1⟩ : ∃ n, n = P.num 1 := ⟨_, rfl⟩
  obtain ⟨p1, hp1⟩ : ∃ x, x = P.skip 1 := ⟨_, rfl⟩
  rw [← hn1] at k1 l1 ⊢
  rw [← hp1] at k1 k2 k3 k4 l2 l3 l4 b1 b2 b3 b4 ⊢
  obtain ⟨n2, hn2⟩ : ∃ n, n = p1.num 4 := ⟨_, rfl⟩
  obtain ⟨p2, hp2⟩ : ∃ x, x = p1.skip 4 := ⟨_, rfl⟩
  rw [← hn2] at k2 l2 ⊢
  rw [← hp2] at k2 k3 k4 l3 l4 b2 b3 b4 ⊢
  obtain ⟨n3, hn3⟩ : ∃ n, n = p2.num 4 := ⟨_, rfl⟩
  obtain ⟨p3, hp3⟩ : ∃ x, x = p2.skip 4 := ⟨_, rfl⟩
  rw [← hn3] at k3 l3 ⊢
  rw [← hp3] at k3 k4 l4 b3 b4 ⊢
  obtain ⟨n4, hn4⟩ : ∃ n, n = p3.num 8 := ⟨_, rfl⟩
  obtain ⟨p4, hp4⟩ : ∃ x, x = p3.skip 8 := ⟨_, rfl⟩
  rw [← hn4] at k4 l4 ⊢
  rw [← hp4] at k4 b4 ⊢
  clear hn1 hn2 hn3 hn4 hp1 hp2 hp3 hp4
  go_enter Try.func25, Try.ntmps25
  have q1 := hs0.pp.c0
  go_wp2_with fail
  clear q1
  refine (k1 _ hs0.pp.rd).mono ?_
  rintro e w1 ⟨rfl, hr, hb⟩
  have hr1 := hs0.read hr hb b1
  clear hr hb hs0 k1
  have c0 : w1.cell? ⟨(w.heap.size + 1), 0, none⟩ = some (.int .i64 0) := hr1.cell 0 rfl
  have f0 : w1.frozen? ⟨(w.heap.size + 1), 0, none⟩ = false := hr1.frozen 0
  have hs1 := hr1.set 0 (.int .i64 (n1 : Int)) (cs' := #[.int .i64 (n1 : Int), .int .u32 0, .int .u32 0, .int .u64 0]) rfl
  clear hr1
  have q2 := hs1.pp.c0
  go_wp2_with fail
  clear q2
  refine (k2 _ hs1.pp.rd).mono ?_
  rintro e w2 ⟨rfl, hr, hb⟩
  have hr2 := hs1.read hr hb b2
  clear hr hb hs1 k2
  have c1 : w2.cell? ⟨(w.heap.size + 1), 1, none⟩ = some (.int .u32 0) := hr2.cell 1 rfl
  have f1 : w2.frozen? ⟨(w.heap.size + 1), 1, none⟩ = false := hr2.frozen 1
  have hs2 := hr2.set 1 (.int .u32 (n2 : Int)) (cs' := #[.int .i64 (n1 : Int), .int .u32 (n2 : Int), .int .u32 0, .int .u64 0]) rfl
  clear hr2
  have q3 := hs2.pp.c0
  go_wp2_with fail
  clear q3
  refine (k3 _ hs2.pp.rd).mono ?_
  rintro e w3 ⟨rfl, hr, hb⟩
  have hr3 := hs2.read hr hb b3
  clear hr hb hs2 k3
  have c2 : w3.cell? ⟨(w.heap.size + 1), 2, none⟩ = some (.int .u32 0) := hr3.cell 2 rfl
  have f2 : w3.frozen? ⟨(w.heap.size + 1), 2, none⟩ = false := hr3.frozen 2
  have hs3 := hr3.set 2 (.int .u32 (n3 : Int)) (cs' := #[.int .i64 (n1 : Int), .int .u32 (n2 : Int), .int .u32 (n3 : Int), .int .u64 0]) rfl
  clear hr3
  have q4 := hs3.pp.c0
  go_wp2_with fail
  clear q4
  refine (k4 _ hs3.pp.rd).mono ?_
  rintro e w4 ⟨rfl, hr, hb⟩
  have hr4 := hs3.read hr hb b4
  clear hr hb hs3 k4
  have c3 : w4.cell? ⟨(w.heap.size + 1), 3, none⟩ = some (.int .u64 0) := hr4.cell 3 rfl
  have f3 : w4.frozen? ⟨(w.heap.size + 1), 3, none⟩ = false := hr4.frozen 3
  have hs4 := hr4.set 3 (.int .u64 (n4 : Int)) (cs' := #[.int .i64 (n1 : Int), .int .u32 (n2 : Int), .int .u32 (n3 : Int), .int .u64 (n4 : Int)]) rfl
  clear hr4
  have HBX := Lib.hid (show _ = _ from hs4.box)
  have HRX := Lib.hid (show _ = _ from hs4.res)
  have HLAST := Lib.hid (hs4.last #[.int .i64 (n1 : Int), .int .u32 (n2 : Int), .int .u32 (n3 : Int), .int .u64 (n4 : Int)])
  clear hs4
  have hone : (#[.int .i64 (n1 : Int), .int .u32 (n2 : Int), .int .u32 (n3 : Int), .int .u64 (n4 : Int)] : Array Value).all (fun x => x.oneCell') = true := by simp [Value.oneCell']
  have HONE := Lib.hid hone
  clear hone
  have HOLD := Lib.hid (show (#[.int .i64 0, .int .u32 0, .int .u32 0, .int .u64 0] : Array Value).size = (#[.int .i64 (n1 : Int), .int .u32 (n2 : Int), .int .u32 (n3 : Int), .int .u64 (n4 : Int)] : Array Value).size by simp)
  have HSZ := Lib.hid (tok_size.trans (show some 4 = some (#[.int .i64 (n1 : Int), .int .u32 (n2 : Int), .int .u32 (n3 : Int), .int .u64 (n4 : Int)] : Array Value).size by simp))
  go_wp2_with (first
    | (refine wpList_load_row rfl 29 _ rfl (w.heap.size + 1) rfl 29 _ (0, 0) _ HBX.out Try.underlying29 rfl HSZ.out ?_)
    | (refine wpList_store_rowTo rfl 29 _ _ rfl rfl w.heap.size #[.int .i64 (n1 : Int), .int .u32 (n2 : Int), .int .u32 (n3 : Int), .int .u64 (n4 : Int)] rfl rfl 29 #[.int .i64 0, .int .u32 0, .int .u32 0, .int .u64 0] HRX.out HSZ.out HOLD.out HONE.out ?_))
  refine bodyPost_ret (results_cell_row rfl _ _ w.heap.size 29 #[.int .i64 (n1 : Int), .int .u32 (n2 : Int), .int .u32 (n3 : Int), .int .u64 (n4 : Int)] (0, 0) _ rfl (setRow_heap _ _ _ _ _ _ HRX.out) Try.underlying29 rfl HSZ.out) rfl ?_
  exact ⟨rfl, HLAST.out⟩
set_option maxRecDepth 100000 in
set_option maxHeartbeats 2000000 in
theorem pop_get (p r bd : Nat) (P p0 p1 p2 p3 p4 : Pos) (bad b0 b1 b3 : Bool) (tag : Int) (d8 del : Bool) (h8 : (tag == 8) = d8) (h9 : (tag == 9) = false) (h7 : (tag == 7) = true) (key val : ByteArray) (cond ttl : Nat) (w : World) (h : PP p r bd w P bad)
    (k1 : ∀ w, PP p r bd w P bad → Calls Try.prog 28 #[.pointer (some ⟨p, 0, none⟩), .int .i64 ((1 : Nat) : Int), .int .i64 ((64 : Nat) : Int)] w fun e w' => e = .returned (.string key) ∧ PP p r bd w' p1 b1 ∧ But (Both p r) w w') :
    Calls Try.prog 27 #[.pointer (some ⟨p, 0, none⟩), .int .i64 tag] w fun e w' => e = .returned (.agg #[.bool d8, .string key, .string ⟨#[]⟩, .int .u64 0, .int .u64 0]) ∧ PP p r bd w' p1 b1 ∧ But (Both p r) w w' := by
  have hsA := Pdg.begun (t := 83) h #[.bool false, .string ⟨#[]⟩, .string ⟨#[]⟩, .int .u64 0, .int .u64 0] #[.bool d8, .string ⟨#[]⟩, .string ⟨#[]⟩, .int .u64 0, .int .u64 0]
  clear h
  go_enter Try.func27, Try.ntmps27
  go_wp2_with fail
  refine (k1 _ hsA.pp).mono ?_
  rintro e w1 ⟨rfl, hp, hb⟩
  have hr1 := hsA.call hp hb
  clear hp hb hsA k1
  have c1 : w1.cell? ⟨(w.heap.size + 1), 1, none⟩ = some (.string ⟨#[]⟩) := hr1.cell 1 rfl
  have f1 : w1.frozen? ⟨(w.heap.size + 1), 1, none⟩ = false := hr1.frozen 1
  have hs1 := hr1.set 1 (.string key) (cs' := #[.bool d8, .string key, .string ⟨#[]⟩, .int .u64 0, .int .u64 0]) rfl
  clear hr1
  have HBX := Lib.hid (show _ = _ from hs1.box)
  have HRX := Lib.hid (show _ = _ from hs1.res)
  have HLAST := Lib.hid (hs1.last #[.bool d8, .string key, .string ⟨#[]⟩, .int .u64 0, .int .u64 0])
  clear hs1
  have hone : (#[.bool d8, .string key, .string ⟨#[]⟩, .int .u64 0, .int .u64 0] : Array Value).all (fun x => x.oneCell') = true := by simp [Value.oneCell']
  have HONE := Lib.hid hone
  clear hone
  have HOLD := Lib.hid (show (#[.bool false, .string ⟨#[]⟩, .string ⟨#[]⟩, .int .u64 0, .int .u64 0] : Array Value).size = (#[.bool d8, .string key, .string ⟨#[]⟩, .int .u64 0, .int .u64 0] : Array Value).size by simp)
  have HSZ := Lib.hid (rop_size.trans (show some 5 = some (#[.bool d8, .string key, .string ⟨#[]⟩, .int .u64 0, .int .u64 0] : Array Value).size by simp))
  go_wp2_with (first
    | (refine wpList_load_row rfl 83 _ rfl (w.heap.size + 1) rfl 83 _ (0, 0) _ HBX.out Try.underlying83 rfl HSZ.out ?_)
    | (refine wpList_store_rowTo rfl 83 _ _ rfl rfl w.heap.size #[.bool d8, .string key, .string ⟨#[]⟩, .int .u64 0, .int .u64 0] rfl rfl 83 #[.bool false, .string ⟨#[]⟩, .string ⟨#[]⟩, .int .u64 0, .int .u64 0] HRX.out HSZ.out HOLD.out HONE.out ?_))
  refine bodyPost_ret (results_cell_row rfl _ _ w.heap.size 83 #[.bool d8, .string key, .string ⟨#[]⟩, .int .u64 0, .int .u64 0] (0, 0) _ rfl (setRow_heap _ _ _ _ _ _ HRX.out) Try.underlying83 rfl HSZ.out) rfl ?_
  exact ⟨rfl, HLAST.out⟩
set_option maxRecDepth 100000 in
set_option maxHeartbeats 2000000 in
theorem pop_del (p r bd : Nat) (P p0 p1 p2 p3 p4 : Pos) (bad b0 b1 b3 : Bool) (tag : Int) (d8 del : Bool) (h8 : (tag == 8) = d8) (h9 : (tag == 9) = false) (h7 : (tag == 7) = false) (hd : d8 = true) (key val : ByteArray) (cond ttl : Nat) (w : World) (h : PP p r bd w P bad)
    (k1 : ∀ w, PP p r bd w P bad → Calls Try.prog 28 #[.pointer (some ⟨p, 0, none⟩), .int .i64 ((1 : Nat) : Int), .int .i64 ((64 : Nat) : Int)] w fun e w' => e = .returned (.string key) ∧ PP p r bd w' p1 b1 ∧ But (Both p r) w w')
    (hz2 : Bytes p2.zs) (k2 : ∀ w, RfP r bd w p1 → Calls Try.prog 24 #[.pointer (some ⟨r, 0, none⟩), .int .i64 ((8 : Nat) : Int)] w fun e w' => e = .returned (.int .u64 (cond : Int)) ∧ RfP r bd w' p2 ∧ But (fun b => b = r) w w') :
    Calls Try.prog 27 #[.pointer (some ⟨p, 0, none⟩), .int .i64 tag] w fun e w' => e = .returned (.agg #[.bool true, .string key, .string ⟨#[]⟩, .int .u64 (cond : Int), .int .u64 0]) ∧ PP p r bd w' p2 b1 ∧ But (Both p r) w w' := by
  have hsA := Pdg.begun (t := 83) h #[.bool false, .string ⟨#[]⟩, .string ⟨#[]⟩, .int .u64 0, .int .u64 0] #[.bool true, .string ⟨#[]⟩, .string ⟨#[]⟩, .int .u64 0, .int .u64 0]
  subst hd
  clear h
  go_enter Try.func27, Try.ntmps27
  go_wp2_with fail
  refine (k1 _ hsA.pp).mono ?_
  rintro e w1 ⟨rfl, hp, hb⟩
  have hr1 := hsA.call hp hb
  clear hp hb hsA k1
  have c1 : w1.cell? ⟨(w.heap.size + 1), 1, none⟩ = some (.string ⟨#[]⟩) := hr1.cell 1 rfl
  have f1 : w1.frozen? ⟨(w.heap.size + 1), 1, none⟩ = false := hr1.frozen 1
  have hs1 := hr1.set 1 (.string key) (cs' := #[.bool true, .string key, .string ⟨#[]⟩, .int .u64 0, .int .u64 0]) rfl
  clear hr1
  have q2 := hs1.pp.c0
  go_wp2_with fail
  clear q2
  refine (k2 _ hs1.pp.rd).mono ?_
  rintro e w2 ⟨rfl, hr, hb⟩
  have hr2 := hs1.read hr hb hz2
  clear hr hb hs1 k2
  have c3 : w2.cell? ⟨(w.heap.size + 1), 3, none⟩ = some (.int .u64 0) := hr2.cell 3 rfl
  have f3 : w2.frozen? ⟨(w.heap.size + 1), 3, none⟩ = false := hr2.frozen 3
  have c0 : w2.cell? ⟨(w.heap.size + 1), 0, none⟩ = some (.bool true) := hr2.cell 0 rfl
  have hs2 := hr2.set 3 (.int .u64 (cond : Int)) (cs' := #[.bool true, .string key, .string ⟨#[]⟩, .int .u64 (cond : Int), .int .u64 0]) rfl
  clear hr2
  have HBX := Lib.hid (show _ = _ from hs2.box)
  have HRX := Lib.hid (show _ = _ from hs2.res)
  have HLAST := Lib.hid (hs2.last #[.bool true, .string key, .string ⟨#[]⟩, .int .u64 (cond : Int), .int .u64 0])
  clear hs2
  have hone : (#[.bool true, .string key, .string ⟨#[]⟩, .int .u64 (cond : Int), .int .u64 0] : Array Value).all (fun x => x.oneCell') = true := by simp [Value.oneCell']
  have HONE := Lib.hid hone
  clear hone
  have HOLD := Lib.hid (show (#[.bool false, .string ⟨#[]⟩, .string ⟨#[]⟩, .int .u64 0, .int .u64 0] : Array Value).size = (#[.bool true, .string key, .string ⟨#[]⟩, .int .u64 (cond : Int), .int .u64 0] : Array Value).size by simp)
  have HSZ := Lib.hid (rop_size.trans (show some 5 = some (#[.bool true, .string key, .string ⟨#[]⟩, .int .u64 (cond : Int), .int .u64 0] : Array Value).size by simp))
  go_wp2_with (first
    | (refine wpList_load_row rfl 83 _ rfl (w.heap.size + 1) rfl 83 _ (0, 0) _ HBX.out Try.underlying83 rfl HSZ.out ?_)
    | (refine wpList_store_rowTo rfl 83 _ _ rfl rfl w.heap.size #[.bool true, .string key, .string ⟨#[]⟩, .int .u64 (cond : Int), .int .u64 0] rfl rfl 83 #[.bool false, .string ⟨#[]⟩, .string ⟨#[]⟩, .int .u64 0, .int .u64 0] HRX.out HSZ.out HOLD.out HONE.out ?_))
  refine bodyPost_ret (results_cell_row rfl _ _ w.heap.size 83 #[.bool true, .string key, .string ⟨#[]⟩, .int .u64 (cond : Int), .int .u64 0] (0, 0) _ rfl (setRow_heap _ _ _ _ _ _ HRX.out) Try.underlying83 rfl HSZ.out) rfl ?_
  exact ⟨rfl, HLAST.out⟩
set_option maxRecDepth 100000 in
set_option maxHeartbeats 2000000 in
theorem pop_put (p r bd : Nat) (P p0 p1 p2 p3 p4 : Pos) (bad b0 b1 b3 : Bool) (tag : Int) (d8 del : Bool) (h8 : (tag == 8) = d8) (h9 : (tag == 9) = false) (h7 : (tag == 7) = false) (hd : d8 = false) (key val : ByteArray) (cond ttl : Nat) (w : World) (h : PP p r bd w P bad)
    (k1 : ∀ w, PP p r bd w P bad → Calls Try.prog 28 #[.pointer (some ⟨p, 0, none⟩), .int .i64 ((1 : Nat) : Int), .int .i64 ((64 : Nat) : Int)] w fun e w' => e = .returned (.string key) ∧ PP p r bd w' p1 b1 ∧ But (Both p r) w w')
    (hz2 : Bytes p2.zs) (k2 : ∀ w, RfP r bd w p1 → Calls Try.prog 24 #[.pointer (some ⟨r, 0, none⟩), .int .i64 ((8 : Nat) : Int)] w fun e w' => e = .returned (.int .u64 (cond : Int)) ∧ RfP r bd w' p2 ∧ But (fun b => b = r) w w')
    (k3 : ∀ w, PP p r bd w p2 b1 → Calls Try.prog 28 #[.pointer (some ⟨p, 0, none⟩), .int .i64 ((0 : Nat) : Int), .int .i64 ((1000 : Nat) : Int)] w fun e w' => e = .returned (.string val) ∧ PP p r bd w' p3 b3 ∧ But (Both p r) w w')
    (hz4 : Bytes p4.zs) (k4 : ∀ w, RfP r bd w p3 → Calls Try.prog 24 #[.pointer (some ⟨r, 0, none⟩), .int .i64 ((8 : Nat) : Int)] w fun e w' => e = .returned (.int .u64 (ttl : Int)) ∧ RfP r bd w' p4 ∧ But (fun b => b = r) w w') :
    Calls Try.prog 27 #[.pointer (some ⟨p, 0, none⟩), .int .i64 tag] w fun e w' => e = .returned (.agg #[.bool false, .string key, .string val, .int .u64 (cond : Int), .int .u64 (ttl : Int)]) ∧ PP p r bd w' p4 b3 ∧ But (Both p r) w w' := by
  have hsA := Pdg.begun (t := 83) h #[.bool false, .string ⟨#[]⟩, .string ⟨#[]⟩, .int .u64 0, .int .u64 0] #[.bool false, .string ⟨#[]⟩, .string ⟨#[]⟩, .int .u64 0, .int .u64 0]
  subst hd
  clear h
  go_enter Try.func27, Try.ntmps27
  go_wp2_with fail
  refine (k1 _ hsA.pp).mono ?_
  rintro e w1 ⟨rfl, hp, hb⟩
  have hr1 := hsA.call hp hb
  clear hp hb hsA k1
  have c1 : w1.cell? ⟨(w.heap.size + 1), 1, none⟩ = some (.string ⟨#[]⟩) := hr1.cell 1 rfl
  have f1 : w1.frozen? ⟨(w.heap.size + 1), 1, none⟩ = false := hr1.frozen 1
  have hs1 := hr1.set 1 (.string key) (cs' := #[.bool false, .string key, .string ⟨#[]⟩, .int .u64 0, .int .u64 0]) rfl
  clear hr1
  have q2 := hs1.pp.c0
  go_wp2_with fail
  clear q2
  refine (k2 _ hs1.pp.rd).mono ?_
  rintro e w2 ⟨rfl, hr, hb⟩
  have hr2 := hs1.read hr hb hz2
  clear hr hb hs1 k2
  have c3 : w2.cell? ⟨(w.heap.size + 1), 3, none⟩ = some (.int .u64 0) := hr2.cell 3 rfl
  have f3 : w2.frozen? ⟨(w.heap.size + 1), 3, none⟩ = false := hr2.frozen 3
  have c0 : w2.cell? ⟨(w.heap.size + 1), 0, none⟩ = some (.bool false) := hr2.cell 0 rfl
  have hs2 := hr2.set 3 (.int .u64 (cond : Int)) (cs' := #[.bool false, .string key, .string ⟨#[]⟩, .int .u64 (cond : Int), .int .u64 0]) rfl
  clear hr2
  go_wp2_with fail
  refine (k3 _ hs2.pp).mono ?_
  rintro e w3 ⟨rfl, hp, hb⟩
  have hr3 := hs2.call hp hb
  clear hp hb hs2 k3
  have c2 : w3.cell? ⟨(w.heap.size + 1), 2, none⟩ = some (.string ⟨#[]⟩) := hr3.cell 2 rfl
  have f2 : w3.frozen? ⟨(w.heap.size + 1), 2, none⟩ = false := hr3.frozen 2
  have hs3 := hr3.set 2 (.string val) (cs' := #[.bool false, .string key, .string val, .int .u64 (cond : Int), .int .u64 0]) rfl
  clear hr3
  have q4 := hs3.pp.c0
  go_wp2_with fail
  clear q4
  refine (k4 _ hs3.pp.rd).mono ?_
  rintro e w4 ⟨rfl, hr, hb⟩
  have hr4 := hs3.read hr hb hz4
  clear hr hb hs3 k4
  have c4 : w4.cell? ⟨(w.heap.size + 1), 4, none⟩ = some (.int .u64 0) := hr4.cell 4 rfl
  have f4 : w4.frozen? ⟨(w.heap.size + 1), 4, none⟩ = false := hr4.frozen 4
  have hs4 := hr4.set 4 (.int .u64 (ttl : Int)) (cs' := #[.bool false, .string key, .string val, .int .u64 (cond : Int), .int .u64 (ttl : Int)]) rfl
  clear hr4
  have HBX := Lib.hid (show _ = _ from hs4.box)
  have HRX := Lib.hid (show _ = _ from hs4.res)
  have HLAST := Lib.hid (hs4.last #[.bool false, .string key, .string val, .int .u64 (cond : Int), .int .u64 (ttl : Int)])
  clear hs4
  have hone : (#[.bool false, .string key, .string val, .int .u64 (cond : Int), .int .u64 (ttl : Int)] : Array Value).all (fun x => x.oneCell') = true := by simp [Value.oneCell']
  have HONE := Lib.hid hone
  clear hone
  have HOLD := Lib.hid (show (#[.bool false, .string ⟨#[]⟩, .string ⟨#[]⟩, .int .u64 0, .int .u64 0] : Array Value).size = (#[.bool false, .string key, .string val, .int .u64 (cond : Int), .int .u64 (ttl : Int)] : Array Value).size by simp)
  have HSZ := Lib.hid (rop_size.trans (show some 5 = some (#[.bool false, .string key, .string val, .int .u64 (cond : Int), .int .u64 (ttl : Int)] : Array Value).size by simp))
  go_wp2_with (first
    | (refine wpList_load_row rfl 83 _ rfl (w.heap.size + 1) rfl 83 _ (0, 0) _ HBX.out Try.underlying83 rfl HSZ.out ?_)
    | (refine wpList_store_rowTo rfl 83 _ _ rfl rfl w.heap.size #[.bool false, .string key, .string val, .int .u64 (cond : Int), .int .u64 (ttl : Int)] rfl rfl 83 #[.bool false, .string ⟨#[]⟩, .string ⟨#[]⟩, .int .u64 0, .int .u64 0] HRX.out HSZ.out HOLD.out HONE.out ?_))
  refine bodyPost_ret (results_cell_row rfl _ _ w.heap.size 83 #[.bool false, .string key, .string val, .int .u64 (cond : Int), .int .u64 (ttl : Int)] (0, 0) _ rfl (setRow_heap _ _ _ _ _ _ HRX.out) Try.underlying83 rfl HSZ.out) rfl ?_
  exact ⟨rfl, HLAST.out⟩
set_option maxRecDepth 100000 in
set_option maxHeartbeats 2000000 in
theorem pop_del9 (p r bd : Nat) (P p0 p1 p2 p3 p4 : Pos) (bad b0 b1 b3 : Bool) (tag : Int) (d8 del : Bool) (h8 : (tag == 8) = d8) (h9 : (tag == 9) = true) (h7 : (tag == 7) = false) (hd : del = true) (key val : ByteArray) (cond ttl : Nat) (w : World) (h : PP p r bd w P bad)
    (k0 : ∀ w, PP p r bd w P bad → Calls Try.prog 29 #[.pointer (some ⟨p, 0, none⟩)] w fun e w' => e = .returned (.bool del) ∧ PP p r bd w' p0 b0 ∧ But (Both p r) w w')
    (k1 : ∀ w, PP p r bd w p0 b0 → Calls Try.prog 28 #[.pointer (some ⟨p, 0, none⟩), .int .i64 ((1 : Nat) : Int), .int .i64 ((64 : Nat) : Int)] w fun e w' => e = .returned (.string key) ∧ PP p r bd w' p1 b1 ∧ But (Both p r) w w')
    (hz2 : Bytes p2.zs) (k2 : ∀ w, RfP r bd w p1 → Calls Try.prog 24 #[.pointer (some ⟨r, 0, none⟩), .int .i64 ((8 : Nat) : Int)] w fun e w' => e = .returned (.int .u64 (cond : Int)) ∧ RfP r bd w' p2 ∧ But (fun b => b = r) w w') :
    Calls Try.prog 27 #[.pointer (some ⟨p, 0, none⟩), .int .i64 tag] w fun e w' => e = .returned (.agg #[.bool true, .string key, .string ⟨#[]⟩, .int .u64 (cond : Int), .int .u64 0]) ∧ PP p r bd w' p2 b1 ∧ But (Both p r) w w' := by
  have hsA := Pdg.begun (t := 83) h #[.bool false, .string ⟨#[]⟩, .string ⟨#[]⟩, .int .u64 0, .int .u64 0] #[.bool d8, .string ⟨#[]⟩, .string ⟨#[]⟩, .int .u64 0, .int .u64 0]
  subst hd
  clear h
  go_enter Try.func27, Try.ntmps27
  go_wp2_with fail
  refine (k0 _ hsA.pp).mono ?_
  rintro e w0 ⟨rfl, hp, hb⟩
  have hr0 := hsA.call hp hb
  clear hp hb hsA k0
  have c0 : w0.cell? ⟨(w.heap.size + 1), 0, none⟩ = some (.bool d8) := hr0.cell 0 rfl
  have f0 : w0.frozen? ⟨(w.heap.size + 1), 0, none⟩ = false := hr0.frozen 0
  have hs0 := hr0.set 0 (.bool true) (cs' := #[.bool true, .string ⟨#[]⟩, .string ⟨#[]⟩, .int .u64 0, .int .u64 0]) rfl
  clear hr0
  go_wp2_with fail
  refine (k1 _ hs0.pp).mono ?_
  rintro e w1 ⟨rfl, hp, hb⟩
  have hr1 := hs0.call hp hb
  clear hp hb hs0 k1
  have c1 : w1.cell? ⟨(w.heap.size + 1), 1, none⟩ = some (.string ⟨#[]⟩) := hr1.cell 1 rfl
  have f1 : w1.frozen? ⟨(w.heap.size + 1), 1, none⟩ = false := hr1.frozen 1
  have hs1 := hr1.set 1 (.string key) (cs' := #[.bool true, .string key, .string ⟨#[]⟩, .int .u64 0, .int .u64 0]) rfl
  clear hr1
  have q2 := hs1.pp.c0
  go_wp2_with fail
  clear q2
  refine (k2 _ hs1.pp.rd).mono ?_
  rintro e w2 ⟨rfl, hr, hb⟩
  have hr2 := hs1.read hr hb hz2
  clear hr hb hs1 k2
  have c3 : w2.cell? ⟨(w.heap.size + 1), 3, none⟩ = some (.int .u64 0) := hr2.cell 3 rfl
  have f3 : w2.frozen? ⟨(w.heap.size + 1), 3, none⟩ = false := hr2.frozen 3
  have c0 : w2.cell? ⟨(w.heap.size + 1), 0, none⟩ = some (.bool true) := hr2.cell 0 rfl
  have hs2 := hr2.set 3 (.int .u64 (cond : Int)) (cs' := #[.bool true, .string key, .string ⟨#[]⟩, .int .u64 (cond : Int), .int .u64 0]) rfl
  clear hr2
  have HBX := Lib.hid (show _ = _ from hs2.box)
  have HRX := Lib.hid (show _ = _ from hs2.res)
  have HLAST := Lib.hid (hs2.last #[.bool true, .string key, .string ⟨#[]⟩, .int .u64 (cond : Int), .int .u64 0])
  clear hs2
  have hone : (#[.bool true, .string key, .string ⟨#[]⟩, .int .u64 (cond : Int), .int .u64 0] : Array Value).all (fun x => x.oneCell') = true := by simp [Value.oneCell']
  have HONE := Lib.hid hone
  clear hone
  have HOLD := Lib.hid (show (#[.bool false, .string ⟨#[]⟩, .string ⟨#[]⟩, .int .u64 0, .int .u64 0] : Array Value).size = (#[.bool true, .string key, .string ⟨#[]⟩, .int .u64 (cond : Int), .int .u64 0] : Array Value).size by simp)
  have HSZ := Lib.hid (rop_size.trans (show some 5 = some (#[.bool true, .string key, .string ⟨#[]⟩, .int .u64 (cond : Int), .int .u64 0] : Array Value).size by simp))
  go_wp2_with (first
    | (refine wpList_load_row rfl 83 _ rfl (w.heap.size + 1) rfl 83 _ (0, 0) _ HBX.out Try.underlying83 rfl HSZ.out ?_)
    | (refine wpList_store_rowTo rfl 83 _ _ rfl rfl w.heap.size #[.bool true, .string key, .string ⟨#[]⟩, .int .u64 (cond : Int), .int .u64 0] rfl rfl 83 #[.bool false, .string ⟨#[]⟩, .string ⟨#[]⟩, .int .u64 0, .int .u64 0] HRX.out HSZ.out HOLD.out HONE.out ?_))
  refine bodyPost_ret (results_cell_row rfl _ _ w.heap.size 83 #[.bool true, .string key, .string ⟨#[]⟩, .int .u64 (cond : Int), .int .u64 0] (0, 0) _ rfl (setRow_heap _ _ _ _ _ _ HRX.out) Try.underlying83 rfl HSZ.out) rfl ?_
  exact ⟨rfl, HLAST.out⟩
set_option maxRecDepth 100000 in
set_option maxHeartbeats 2000000 in
theorem pop_put9 (p r bd : Nat) (P p0 p1 p2 p3 p4 : Pos) (bad b0 b1 b3 : Bool) (tag : Int) (d8 del : Bool) (h8 : (tag == 8) = d8) (h9 : (tag == 9) = true) (h7 : (tag == 7) = false) (hd : del = false) (key val : ByteArray) (cond ttl : Nat) (w : World) (h : PP p r bd w P bad)
    (k0 : ∀ w, PP p r bd w P bad → Calls Try.prog 29 #[.pointer (some ⟨p, 0, none⟩)] w fun e w' => e = .returned (.bool del) ∧ PP p r bd w' p0 b0 ∧ But (Both p r) w w')
    (k1 : ∀ w, PP p r bd w p0 b0 → Calls Try.prog 28 #[.pointer (some ⟨p, 0, none⟩), .int .i64 ((1 : Nat) : Int), .int .i64 ((64 : Nat) : Int)] w fun e w' => e = .returned (.string key) ∧ PP p r bd w' p1 b1 ∧ But (Both p r) w w')
    (hz2 : Bytes p2.zs) (k2 : ∀ w, RfP r bd w p1 → Calls Try.prog 24 #[.pointer (some ⟨r, 0, none⟩), .int .i64 ((8 : Nat) : Int)] w fun e w' => e = .returned (.int .u64 (cond : Int)) ∧ RfP r bd w' p2 ∧ But (fun b => b = r) w w')
    (k3 : ∀ w, PP p r bd w p2 b1 → Calls Try.prog 28 #[.pointer (some ⟨p, 0, none⟩), .int .i64 ((0 : Nat) : Int), .int .i64 ((1000 : Nat) : Int)] w fun e w' => e = .returned (.string val) ∧ PP p r bd w' p3 b3 ∧ But (Both p r) w w')
    (hz4 : Bytes p4.zs) (k4 : ∀ w, RfP r bd w p3 → Calls Try.prog 24 #[.pointer (some ⟨r, 0, none⟩), .int .i64 ((8 : Nat) : Int)] w fun e w' => e = .returned (.int .u64 (ttl : Int)) ∧ RfP r bd w' p4 ∧ But (fun b => b = r) w w') :
    Calls Try.prog 27 #[.pointer (some ⟨p, 0, none⟩), .int .i64 tag] w fun e w' => e = .returned (.agg #[.bool false, .string key, .string val, .int .u64 (cond : Int), .int .u64 (ttl : Int)]) ∧ PP p r bd w' p4 b3 ∧ But (Both p r) w w' := by
  have hsA := Pdg.begun (t := 83) h #[.bool false, .string ⟨#[]⟩, .string ⟨#[]⟩, .int .u64 0, .int .u64 0] #[.bool d8, .string ⟨#[]⟩, .string ⟨#[]⟩, .int .u64 0, .int .u64 0]
  subst hd
  clear h
  go_enter Try.func27, Try.ntmps27
  go_wp2_with fail
  refine (k0 _ hsA.pp).mono ?_
  rintro e w0 ⟨rfl, hp, hb⟩
  have hr0 := hsA.call hp hb
  clear hp hb hsA k0
  have c0 : w0.cell? ⟨(w.heap.size + 1), 0, none⟩ = some (.bool d8) := hr0.cell 0 rfl
  have f0 : w0.frozen? ⟨(w.heap.size + 1), 0, none⟩ = false := hr0.frozen 0
  have hs0 := hr0.set 0 (.bool false) (cs' := #[.bool false, .string ⟨#[]⟩, .string ⟨#[]⟩, .int .u64 0, .int .u64 0]) rfl
  clear hr0
  go_wp2_with fail
  refine (k1 _ hs0.pp).mono ?_
  rintro e w1 ⟨rfl, hp, hb⟩
  have hr1 := hs0.call hp hb
  clear hp hb hs0 k1
  have c1 : w1.cell? ⟨(w.heap.size + 1), 1, none⟩ = some (.string ⟨#[]⟩) := hr1.cell 1 rfl
  have f1 : w1.frozen? ⟨(w.heap.size + 1), 1, none⟩ = false := hr1.frozen 1
  have hs1 := hr1.set 1 (.string key) (cs' := #[.bool false, .string key, .string ⟨#[]⟩, .int .u64 0, .int .u64 0]) rfl
  clear hr1
  have q2 := hs1.pp.c0
  go_wp2_with fail
  clear q2
  refine (k2 _ hs1.pp.rd).mono ?_
  rintro e w2 ⟨rfl, hr, hb⟩
  have hr2 := hs1.read hr hb hz2
  clear hr hb hs1 k2
  have c3 : w2.cell? ⟨(w.heap.size + 1), 3, none⟩ = some (.int .u64 0) := hr2.cell 3 rfl
  have f3 : w2.frozen? ⟨(w.heap.size + 1), 3, none⟩ = false := hr2.frozen 3
  have c0 : w2.cell? ⟨(w.heap.size + 1), 0, none⟩ = some (.bool false) := hr2.cell 0 rfl
  have hs2 := hr2.set 3 (.int .u64 (cond : Int)) (cs' := #[.bool false, .string key, .string ⟨#[]⟩, .int .u64 (cond : Int), .int .u64 0]) rfl
  clear hr2
  go_wp2_with fail
  refine (k3 _ hs2.pp).mono ?_
  rintro e w3 ⟨rfl, hp, hb⟩
  have hr3 := hs2.call hp hb
  clear hp hb hs2 k3
  have c2 : w3.cell? ⟨(w.heap.size + 1), 2, none⟩ = some (.string ⟨#[]⟩) := hr3.cell 2 rfl
  have f2 : w3.frozen? ⟨(w.heap.size + 1), 2, none⟩ = false := hr3.frozen 2
  have hs3 := hr3.set 2 (.string val) (cs' := #[.bool false, .string key, .string val, .int .u64 (cond : Int), .int .u64 0]) rfl
  clear hr3
  have q4 := hs3.pp.c0
  go_wp2_with fail
  clear q4
  refine (k4 _ hs3.pp.rd).mono ?_
  rintro e w4 ⟨rfl, hr, hb⟩
  have hr4 := hs3.read hr hb hz4
  clear hr hb hs3 k4
  have c4 : w4.cell? ⟨(w.heap.size + 1), 4, none⟩ = some (.int .u64 0) := hr4.cell 4 rfl
  have f4 : w4.frozen? ⟨(w.heap.size + 1), 4, none⟩ = false := hr4.frozen 4
  have hs4 := hr4.set 4 (.int .u64 (ttl : Int)) (cs' := #[.bool false, .string key, .string val, .int .u64 (cond : Int), .int .u64 (ttl : Int)]) rfl
  clear hr4
  have HBX := Lib.hid (show _ = _ from hs4.box)
  have HRX := Lib.hid (show _ = _ from hs4.res)
  have HLAST := Lib.hid (hs4.last #[.bool false, .string key, .string val, .int .u64 (cond : Int), .int .u64 (ttl : Int)])
  clear hs4
  have hone : (#[.bool false, .string key, .string val, .int .u64 (cond : Int), .int .u64 (ttl : Int)] : Array Value).all (fun x => x.oneCell') = true := by simp [Value.oneCell']
  have HONE := Lib.hid hone
  clear hone
  have HOLD := Lib.hid (show (#[.bool false, .string ⟨#[]⟩, .string ⟨#[]⟩, .int .u64 0, .int .u64 0] : Array Value).size = (#[.bool false, .string key, .string val, .int .u64 (cond : Int), .int .u64 (ttl : Int)] : Array Value).size by simp)
  have HSZ := Lib.hid (rop_size.trans (show some 5 = some (#[.bool false, .string key, .string val, .int .u64 (cond : Int), .int .u64 (ttl : Int)] : Array Value).size by simp))
  go_wp2_with (first
    | (refine wpList_load_row rfl 83 _ rfl (w.heap.size + 1) rfl 83 _ (0, 0) _ HBX.out Try.underlying83 rfl HSZ.out ?_)
    | (refine wpList_store_rowTo rfl 83 _ _ rfl rfl w.heap.size #[.bool false, .string key, .string val, .int .u64 (cond : Int), .int .u64 (ttl : Int)] rfl rfl 83 #[.bool false, .string ⟨#[]⟩, .string ⟨#[]⟩, .int .u64 0, .int .u64 0] HRX.out HSZ.out HOLD.out HONE.out ?_))
  refine bodyPost_ret (results_cell_row rfl _ _ w.heap.size 83 #[.bool false, .string key, .string val, .int .u64 (cond : Int), .int .u64 (ttl : Int)] (0, 0) _ rfl (setRow_heap _ _ _ _ _ _ HRX.out) Try.underlying83 rfl HSZ.out) rfl ?_
  exact ⟨rfl, HLAST.out⟩
end Go.Proofs.Ytbdbbnpkekcefaa.Cmd
namespace Go.Proofs.Ytbdbbnpkekcefaa.Cmd
open Go.Proofs.Ytbdbbnpkekcefaa.Mem Go.Proofs.Ytbdbbnpkekcefaa.Pack
open Go.ChangeShapes Go.WideShapes Go.ChangeAt Go.RowKit
set_option linter.unusedVariables false
set_option linter.unusedSimpArgs false

set_option maxRecDepth 100000 in
set_option maxHeartbeats 2000000 in
theorem pop_any (p r bd : Nat) (P : Pos) (bad : Bool) (tag : Int) (h9 : tag ≠ 9) (w : World) (h : PP p r bd w P bad) :
    Calls Try.prog 27 #[.pointer (some ⟨p, 0, none⟩), .int .i64 tag] w fun e w' => e = .returned (ov (rdOp tag (decide (tag = 8)) P)) ∧ PP p r bd w' (endOp tag (decide (tag = 8)) P) (bad || badOp tag (decide (tag = 8)) P) ∧ But (Both p r) w w' := by
  have b1 := past_bytes h.zs
  have b2 := skip_bytes b1 8
  have b3 := past_bytes b2
  have b4 := skip_bytes b3 8
  have k1 := fun w => ptext_any p r bd P bad 1 64 w
  have k2 := fun w => rfP_number r bd P.past 8 (by omega) (by omega) w
  have k3 := fun w => ptext_any p r bd (P.past.skip 8) (bad || badText 1 64 P) 0 1000 w
  have k4 := fun w => rfP_number r bd ((P.past.skip 8).past) 8 (by omega) (by omega) w
  have h9' : (tag == 9) = false := beq_eq_false_iff_ne.2 h9
  unfold rdOp endOp badOp
  by_cases h7 : tag = 7
  · have h8 : ¬ tag = 8 := by omega
    rw [if_pos h7, if_pos h7, decide_eq_false h8, show (bad || (badText 1 64 P || (decide (tag ≠ 7) && (!false && badText 0 1000 (P.past.skip 8))))) = (bad || badText 1 64 P) by rw [h7]; simp]
    exact pop_get p r bd P P _ P P P bad false _ false tag false false (beq_eq_false_iff_ne.2 h8) h9' (beq_iff_eq.2 h7) _ nothing 0 0 w h k1
  · rw [if_neg h7, if_neg h7]
    have h7' : (tag == 7) = false := beq_eq_false_iff_ne.2 h7
    by_cases h8 : tag = 8
    · rw [decide_eq_true h8, show (bad || (badText 1 64 P || (decide (tag ≠ 7) && (!true && badText 0 1000 (P.past.skip 8))))) = (bad || badText 1 64 P) by simp]
      simp only [if_true]
      exact pop_del p r bd P P _ _ P P bad false _ false tag true true (beq_iff_eq.2 h8) h9' h7' rfl _ nothing _ 0 w h k1 b2 k2
    · rw [decide_eq_false h8, show (bad || (badText 1 64 P || (decide (tag ≠ 7) && (!false && badText 0 1000 (P.past.skip 8))))) = (bad || badText 1 64 P || badText 0 1000 (P.past.skip 8)) by rw [decide_eq_true h7]; simp [Bool.or_assoc]]
      simp only [Bool.false_eq_true, if_false]
      exact pop_put p r bd P P _ _ _ _ bad false _ _ tag false false (beq_eq_false_iff_ne.2 h8) h9' h7' rfl _ _ _ _ w h k1 b2 k2 k3 b4 k4
set_option maxRecDepth 100000 in
set_option maxHeartbeats 2000000 in
theorem pop9_any (p r bd : Nat) (P : Pos) (bad : Bool) (w : World) (h : PP p r bd w P bad) :
    Calls Try.prog 27 #[.pointer (some ⟨p, 0, none⟩), .int .i64 9] w fun e w' => e = .returned (ov (rd9 P)) ∧ PP p r bd w' (end9 P) (bad || bad9 P) ∧ But (Both p r) w w' := by
  have k0 := fun w => pflag_any p r bd P bad w
  have b0 := skip_bytes h.zs 1
  have k1 := fun w => ptext_any p r bd (P.skip 1) (bad || badFlag P) 1 64 w
  have k2 := fun w => rfP_number r bd (P.skip 1).past 8 (by omega) (by omega) w
  have k3 := fun w => ptext_any p r bd ((P.skip 1).past.skip 8) (bad || badFlag P || badText 1 64 (P.skip 1)) 0 1000 w
  have k4 := fun w => rfP_number r bd (((P.skip 1).past.skip 8).past) 8 (by omega) (by omega) w
  have b1 := past_bytes b0
  have b2 := skip_bytes b1 8
  have b3 := past_bytes b2
  have b4 := skip_bytes b3 8
  unfold rd9 end9 bad9 rdOp endOp badOp
  rw [if_neg (show ¬ (9 : Int) = 7 by decide), if_neg (show ¬ (9 : Int) = 7 by decide)]
  obtain ⟨d, hd⟩ : ∃ d, d = isDel P := ⟨_, rfl⟩
  rw [← hd] at k0 ⊢
  clear hd
  cases d
  · simp only [Bool.false_eq_true, if_false]
    rw [show (bad || (badFlag P || (badText 1 64 (P.skip 1) || (decide ((9 : Int) ≠ 7) && (!false && badText 0 1000 ((P.skip 1).past.skip 8)))))) = (bad || badFlag P || badText 1 64 (P.skip 1) || badText 0 1000 ((P.skip 1).past.skip 8)) by simp [Bool.or_assoc]]
    have e := pop_put9 p r bd P (P.skip 1) (P.skip 1).past ((P.skip 1).past.skip 8) ((P.skip 1).past.skip 8).past (((P.skip 1).past.skip 8).past.skip 8) bad (bad || badFlag P) (bad || badFlag P || badText 1 64 (P.skip 1)) (bad || badFlag P || badText 1 64 (P.skip 1) || badText 0 1000 ((P.skip 1).past.skip 8)) 9 false false (by decide) (by decide) (by decide) rfl (P.skip 1).txt ((P.skip 1).past.skip 8).txt ((P.skip 1).past.num 8) (((P.skip 1).past.skip 8).past.num 8) w h k0 k1 b2 k2 k3 b4 k4
    unfold ov
    refine e.mono ?_
    rintro x w' ⟨h1, h2, h3⟩
    refine ⟨?_, h2, h3⟩
    simp only
    rw [h1]
    try rfl
  · simp only [if_true]
    rw [show (bad || (badFlag P || (badText 1 64 (P.skip 1) || (decide ((9 : Int) ≠ 7) && (!true && badText 0 1000 ((P.skip 1).past.skip 8)))))) = (bad || badFlag P || badText 1 64 (P.skip 1)) by simp [Bool.or_assoc]]
    have e := pop_del9 p r bd P (P.skip 1) (P.skip 1).past ((P.skip 1).past.skip 8) P P bad (bad || badFlag P) (bad || badFlag P || badText 1 64 (P.skip 1)) false 9 false true (by decide) (by decide) (by decide) rfl (P.skip 1).txt nothing ((P.skip 1).past.num 8) 0 w h k0 k1 b2 k2
    unfold ov
    refine e.mono ?_
    rintro x w' ⟨h1, h2, h3⟩
    refine ⟨?_, h2, h3⟩
    simp only
    rw [h1]
    try rfl
end Go.Proofs.Ytbdbbnpkekcefaa.Cmd
