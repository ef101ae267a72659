/- The document's disk in memory; contracts of its Plan, Open, Used and Find. -/
import Derived.Test.YtiaaadeenbjciaaRefMath
import Derived.Test.YtiaaadeenbjciaaDiskAt
import Derived.Test.YtiaaadeenbjciaaDiskBase
import Derived.BigQuiet
import Derived.Deep.QuietTactic
namespace Go.Proofs.Ytiaaadeenbjciaa.Disk
open Go.Proofs.Ytiaaadeenbjciaa.Mem
open Go.ChangeShapes Go.WideShapes Go.ChangeAt Go.RowKit
open Go.Proofs (encStr)
set_option linter.unusedVariables false
structure REnt where
  v : Value
  bytes : List Int
  synced : Nat
def REnt.file (e : REnt) : File := ⟨e.bytes, e.synced⟩
def REntAt (w : World) (e : REnt) : Prop := w.ownsRow 0 5 1 e.v e.bytes.length (cellsOf e.bytes)
def rcells : List (Nm × REnt) → List Value
  | [] => []
  | x :: r => encStr x.1 :: x.2.v :: .int .i64 x.2.synced :: rcells r
theorem rcells_length : ∀ rs : List (Nm × REnt), (rcells rs).length = rs.length * 3
  | [] => rfl
  | x :: r => by
    unfold rcells
    simp only [List.length_cons, rcells_length r]
    omega
theorem rcells_append : ∀ xs ys : List (Nm × REnt), rcells (xs ++ ys) = rcells xs ++ rcells ys
  | [], ys => rfl
  | x :: r, ys => by
    show encStr x.1 :: x.2.v :: _ :: rcells (r ++ ys) = _
    rw [rcells_append r ys]; rfl
theorem rcells_get : ∀ {rs : List (Nm × REnt)} {i : Nat} {x : Nm × REnt}, rs[i]? = some x → (rcells rs)[i * 3]? = some (encStr x.1) ∧ (rcells rs)[i * 3 + 1]? = some x.2.v ∧ (rcells rs)[i * 3 + 2]? = some (.int .i64 x.2.synced)
  | [], i, x, h => by simp at h
  | y :: r, i, x, h => by
    cases i with
    | zero => simp at h; subst h; exact ⟨rfl, rfl, rfl⟩
    | succ i =>
      have ih := rcells_get (rs := r) (i := i) (x := x) (by simpa using h)
      have e : (i + 1) * 3 = i * 3 + 1 + 1 + 1 := by omega
      unfold rcells
      rw [e]
      exact ih
def PlanR (plan : Option (Int × Int)) (pl : Bool) (lf kp : Int) : Prop :=
  match plan with
  | none => pl = false
  | some (l, k) => pl = true ∧ lf = l ∧ kp = k
structure RAt (w : World) (rp : Nat) (S : St) (lv : Value) (rs : List (Nm × REnt)) (pl : Bool) (lf kp : Int) : Prop where
  blk : Blk w rp 29 #[.int .i64 S.cap, lv, .int .i64 S.effects, .bool pl, .int .i64 lf, .int .i64 kp, .bool S.down]
  row : w.ownsRow 0 46 3 lv rs.length (rcells rs)
  ents : ∀ x ∈ rs, REntAt w x.2
  files : mapv REnt.file rs = S.files
  plan : PlanR S.plan pl lf kp
  rise : Rise S.files
  good : Good S
def rfoot (rp : Nat) (lv : Value) (rs : List (Nm × REnt)) (k : Nat) : Prop := k = rp ∨ lv.ownBlock = some k ∨ ∃ x ∈ rs, x.2.v.ownBlock = some k
def RHas (w : World) (rp : Nat) (S : St) (G : Nat → Prop) : Prop := ∃ lv rs pl lf kp, RAt w rp S lv rs pl lf kp ∧ (∀ k, rfoot rp lv rs k → G k) ∧ ∀ k, G k → k < w.heap.size
section
variable {w w' : World} {rp : Nat} {S : St} {lv : Value} {rs : List (Nm × REnt)} {pl : Bool} {lf kp : Int}
theorem RAt.lt (h : RAt w rp S lv rs pl lf kp) : ∀ k, rfoot rp lv rs k → k < w.heap.size := by
  rintro k (rfl | hk | ⟨x, hx, hk⟩)
  · exact h.blk.lt
  · exact (h.row.lt k hk).2
  · exact ((h.ents x hx).lt k hk).2
theorem RAt.but {T : Nat → Prop} (h : RAt w rp S lv rs pl lf kp) (hb : But T w w') (hT : ∀ k, rfoot rp lv rs k → ¬ T k) : RAt w' rp S lv rs pl lf kp :=
  ⟨h.blk.but hb (hT _ (.inl rfl)), ownsRow_but h.row hb (fun k hk => hT k (.inr (.inl hk))), fun x hx => ownsRow_but (h.ents x hx) hb (fun k hk => hT k (.inr (.inr ⟨x, hx, hk⟩))), h.files, h.plan, h.rise, h.good⟩
theorem RHas.but {G T : Nat → Prop} (h : RHas w rp S G) (hb : But T w w') (hT : ∀ k, G k → ¬ T k) : RHas w' rp S G := by
  obtain ⟨lv, rs, pl, lf, kp, h1, h2, h3⟩ := h
  exact ⟨lv, rs, pl, lf, kp, h1.but hb (fun k hk => hT k (h2 k hk)), h2, fun k hk => Nat.lt_of_lt_of_le (h3 k hk) hb.size⟩
theorem RAt.hasGrow {G : Nat → Prop} (h : RAt w' rp S lv rs pl lf kp) (hb : But G w w') (hlt : ∀ k, G k → k < w.heap.size) (hF : ∀ k, rfoot rp lv rs k → G k ∨ w.heap.size ≤ k) : RHas w' rp S (grow G w w') := by
  refine ⟨lv, rs, pl, lf, kp, h, fun k hk => ?_, fun k hk => ?_⟩
  · rcases hF k hk with h4 | h4
    · exact .inl h4
    · exact .inr ⟨h4, h.lt k hk⟩
  · rcases hk with h4 | h4
    · exact Nat.lt_of_lt_of_le (hlt k h4) hb.size
    · exact h4.2
theorem RAt.look (h : RAt w rp S lv rs pl lf kp) (n : Nm) : look n S.files = (look n rs).map REnt.file := by rw [← h.files, look_mapv]
theorem RAt.riseR (h : RAt w rp S lv rs pl lf kp) : Rise rs := Rise.of_mapv (f := REnt.file) (h.files.symm ▸ h.rise)
theorem RAt.ent (h : RAt w rp S lv rs pl lf kp) {x : Nm × REnt} (hx : x ∈ rs) : x.2.synced ≤ x.2.bytes.length ∧ Bytes x.2.bytes := h.good.synced (x.1, x.2.file) (by rw [← h.files]; exact List.mem_map.2 ⟨x, hx, rfl⟩)
/- The disk's own block is written. -/
theorem RAt.disk {S' : St} {pl' : Bool} {lf' kp' : Int} (h : RAt w rp S lv rs pl lf kp) (hb : But (fun k => k = rp) w w') (hf : S'.files = S.files)
    (hblk : Blk w' rp 29 #[.int .i64 S'.cap, lv, .int .i64 S'.effects, .bool pl', .int .i64 lf', .int .i64 kp', .bool S'.down]) (hp : PlanR S'.plan pl' lf' kp') (hg : Good S') : RAt w' rp S' lv rs pl' lf' kp' :=
  ⟨hblk, ownsRow_but h.row hb (fun k hk e => own_blk_ne h.row h.blk (by decide) (e ▸ hk)), fun x hx => ownsRow_but (h.ents x hx) hb (fun k hk e => own_blk_ne (h.ents x hx) h.blk (by decide) (e ▸ hk)), h.files.trans hf.symm, hp, hf ▸ h.rise, hg⟩
/- What the slice of files looks like, and its cells. -/
theorem RAt.shape (h : RAt w rp S lv rs pl lf kp) : ∃ a cap, lv = .slice a rs.length cap ∧ rs.length ≤ cap ∧ cap ≤ maxLen ∧ ∀ i x, rs[i]? = some x → ∃ g, a = some ⟨g, 0, none⟩ ∧ w.cell? ⟨g, i * 3, none⟩ = some (encStr x.1) ∧ w.cell? ⟨g, i * 3 + 1, none⟩ = some x.2.v ∧ w.cell? ⟨g, i * 3 + 2, none⟩ = some (.int .i64 x.2.synced) ∧ (∀ j, w.frozen? ⟨g, j, none⟩ = false) ∧ g < w.heap.size := by
  have hrow := h.row
  rcases h.row.2 with ⟨h1, h2⟩ | ⟨g, cap, cur, h1, h2, h3, h4, h5, h6, h7⟩
  · refine ⟨none, 0, by rw [h2]; exact h1, by omega, Nat.zero_le _, fun i x hx => ?_⟩
    have : rs = [] := List.eq_nil_of_length_eq_zero h2
    rw [this] at hx; simp at hx
  · refine ⟨some ⟨g, 0, none⟩, cap, h1, h4, h5, fun i x hx => ⟨g, rfl, ?_⟩⟩
    have hil : i < rs.length := by
      rcases Nat.lt_or_ge i rs.length with h8 | h8
      · exact h8
      · rw [List.getElem?_eq_none h8] at hx; cases hx
    subst h1
    obtain ⟨c0, c1, c2⟩ := rcells_get hx
    refine ⟨?_, ?_, ?_, fun j => hrow.frozenAt j, (hrow.lt g rfl).2⟩
    · rw [hrow.cellAt (i * 3) (by omega)]; exact c0
    · rw [hrow.cellAt (i * 3 + 1) (by omega)]; exact c1
    · rw [hrow.cellAt (i * 3 + 2) (by omega)]; exact c2
end
section
variable {w : World} {rp : Nat} {S : St} {G : Nat → Prop}
set_option maxRecDepth 100000 in
set_option maxHeartbeats 1000000 in
theorem rplan_any (h : RHas w rp S G) (l k : Int) (hl : l ≤ 9223372036854775807) (hk : k ≤ 9223372036854775807) :
    Calls Try.prog 16 #[.pointer (some ⟨rp, 0, none⟩), .int .i64 l, .int .i64 k] w fun e w' => e = .returned (.tuple #[]) ∧ RHas w' rp (planned S l k) (grow G w w') ∧ But G w w' := by
  obtain ⟨lv, rs, pl, lf, kp, hA, hF, hlt⟩ := h
  have c3 : w.cell? ⟨rp, 3, none⟩ = some (.bool pl) := hA.blk.cell 3
  have c4 : w.cell? ⟨rp, 4, none⟩ = some (.int .i64 lf) := hA.blk.cell 4
  have c5 : w.cell? ⟨rp, 5, none⟩ = some (.int .i64 kp) := hA.blk.cell 5
  have f3 := hA.blk.frozen 3
  have f4 := hA.blk.frozen 4
  have f5 := hA.blk.frozen 5
  have hfin : ∀ l' k' : Int, max l 0 = l' → max k 0 = k' → RHas (((w.setCell ⟨rp, 3, none⟩ (.bool true)).setCell ⟨rp, 4, none⟩ (.int .i64 l')).setCell ⟨rp, 5, none⟩ (.int .i64 k')) rp (planned S l k) (grow G w (((w.setCell ⟨rp, 3, none⟩ (.bool true)).setCell ⟨rp, 4, none⟩ (.int .i64 l')).setCell ⟨rp, 5, none⟩ (.int .i64 k'))) ∧ But G w (((w.setCell ⟨rp, 3, none⟩ (.bool true)).setCell ⟨rp, 4, none⟩ (.int .i64 l')).setCell ⟨rp, 5, none⟩ (.int .i64 k')) := by
    intro l' k' el ek
    have hb0 : But (fun k => k = rp) w (((w.setCell ⟨rp, 3, none⟩ (.bool true)).setCell ⟨rp, 4, none⟩ (.int .i64 l')).setCell ⟨rp, 5, none⟩ (.int .i64 k')) := ((but_set w rp 3 _).trans' (but_set _ rp 4 _)).trans' (but_set _ rp 5 _)
    have hb := hb0.mono (T := G) (fun i _ e => e ▸ hF rp (.inl rfl))
    have e : planned S l k = { S with plan := some (l', k') } := by unfold planned; rw [el, ek]
    rw [e]
    refine ⟨RAt.hasGrow (lv := lv) (rs := rs) (pl := true) (lf := l') (kp := k') (hA.disk hb0 rfl (((hA.blk.set_ 3 _).set_ 4 _).set_ 5 _) ⟨rfl, rfl, rfl⟩ ⟨hA.good.apart, hA.good.synced, fun l2 k2 e2 => ?_⟩) hb hlt (fun i hi => .inl (hF i hi)), hb⟩
    injection e2 with e2
    injection e2 with e3 e4
    omega
  have HF := Lib.hid hfin
  clear hfin hA hF hlt
  go_enter Try.func16, Try.ntmps16
  go_wp2
  all_goals (go_end0; refine ⟨rfl, HF.out _ _ ?_ ?_⟩ <;> omega)
set_option maxRecDepth 100000 in
set_option maxHeartbeats 1000000 in
theorem ropen_any (h : RHas w rp S G) :
    Calls Try.prog 18 #[.pointer (some ⟨rp, 0, none⟩)] w fun e w' => e = .returned (.tuple #[]) ∧ RHas w' rp (opened S) (grow G w w') ∧ But G w w' := by
  obtain ⟨lv, rs, pl, lf, kp, hA, hF, hlt⟩ := h
  have c3 : w.cell? ⟨rp, 3, none⟩ = some (.bool pl) := hA.blk.cell 3
  have c6 : w.cell? ⟨rp, 6, none⟩ = some (.bool S.down) := hA.blk.cell 6
  have f3 := hA.blk.frozen 3
  have f6 := hA.blk.frozen 6
  go_enter Try.func18, Try.ntmps18
  go_wp2
  go_end0
  have hb0 : But (fun k => k = rp) w ((w.setCell ⟨rp, 3, none⟩ (.bool false)).setCell ⟨rp, 6, none⟩ (.bool false)) := (but_set w rp 3 _).trans' (but_set _ rp 6 _)
  have hb := hb0.mono (T := G) (fun i _ e => e ▸ hF rp (.inl rfl))
  exact ⟨rfl, RAt.hasGrow (lv := lv) (rs := rs) (pl := false) (lf := lf) (kp := kp) (hA.disk hb0 rfl ((hA.blk.set_ 3 _).set_ 6 _) rfl ⟨hA.good.apart, hA.good.synced, fun l k e => by cases e⟩) hb hlt (fun i hi => .inl (hF i hi)), hb⟩
end
end Go.Proofs.Ytiaaadeenbjciaa.Disk
