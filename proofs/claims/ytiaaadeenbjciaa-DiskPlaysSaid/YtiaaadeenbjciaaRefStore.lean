/- A file of the document's disk gets other bytes, or another number of synced ones; what a call makes of the disk. -/
import Derived.Test.YtiaaadeenbjciaaRefDo
import Derived.Test.YtiaaadeenbjciaaLate
import Derived.Deep.RegionHeld3
namespace Go.Proofs.Ytiaaadeenbjciaa.Disk
open Go.Proofs.Ytiaaadeenbjciaa Go.Proofs.Ytiaaadeenbjciaa.Mem
open Go.ChangeShapes Go.WideShapes Go.ChangeAt Go.RowKit
open Go.Proofs (encStr)
set_option linter.unusedVariables false
section
variable {w w' : World} {rp : Nat} {S : St} {lv : Value} {rs : List (Nm × REnt)} {pl : Bool} {lf kp : Int} {G : Nat → Prop}
/- What a call makes of the disk that is there. -/
def Turned (w : World) (rp : Nat) (lv : Value) (rs : List (Nm × REnt)) (S' : St) (w' : World) : Prop :=
  ∃ lv' rs' pl' lf' kp', RAt w' rp S' lv' rs' pl' lf' kp' ∧ But (rfoot rp lv rs) w w' ∧ ∀ k, rfoot rp lv' rs' k → rfoot rp lv rs k ∨ w.heap.size ≤ k
theorem Turned.says {S' : St} (h : Turned w rp lv rs S' w') (hF : ∀ k, rfoot rp lv rs k → G k) (hlt : ∀ k, G k → k < w.heap.size) : RHas w' rp S' (grow G w w') ∧ But G w w' := by
  obtain ⟨lv', rs', pl', lf', kp', h1, h2, h3⟩ := h
  have hb : But G w w' := h2.mono (fun i _ hi => hF i hi)
  exact ⟨h1.hasGrow hb hlt (fun k hk => (h3 k hk).imp (hF k) id), hb⟩
theorem Turned.of_same {W : World} (h : RAt W rp S lv rs pl lf kp) (hb : But (fun _ => False) w W) : Turned w rp lv rs S W :=
  ⟨lv, rs, pl, lf, kp, h, hb.mono (fun _ _ e => e.elim), fun _ hk => .inl hk⟩
/- A call behind others that left the disk's row and files as they were. -/
theorem Turned.behind {W : World} {S' : St} (hb : But (fun k => k = rp) w W) (h : Turned W rp lv rs S' w') : Turned w rp lv rs S' w' := by
  obtain ⟨lv', rs', pl', lf', kp', h1, h2, h3⟩ := h
  refine ⟨lv', rs', pl', lf', kp', h1, (hb.mono (fun i _ e => .inl e)).trans h2 (fun i _ e => e), fun k hk => (h3 k hk).imp id (fun e => Nat.le_trans hb.size e)⟩
theorem now_keep (h : RAt w rp S lv rs pl lf kp) {k : Int} (hn : now S = some k) : k = kp := by
  have hp := h.plan
  rcases hS : S.plan with _ | ⟨l, k'⟩
  · unfold now at hn; rw [hS] at hn; cases hn
  · rw [hS] at hp
    obtain ⟨_, _, h3⟩ := hp
    unfold now at hn
    rw [hS] at hn
    simp only at hn
    split at hn
    · injection hn with hn; rw [← hn, h3]
    · cases hn
theorem rlen_of (h : RAt w rp S lv rs pl lf kp) : S.files.length = rs.length := by rw [← h.files, length_mapv]
/- The row of files, whose one file has other bytes, synced otherwise. -/
theorem RAt.both {g cl : Nat} (h : RAt w rp S (.slice (some ⟨g, 0, none⟩) rs.length cl) rs pl lf kp) {k : Nat} {x : Nm × REnt} (hx : rs[k]? = some x) {w3 w4 : World} {v' : Value} {bs : List Int} {m : Nat}
    (hb : But (fun i => i = g) w w4) (hv : w4.ownsRow 0 5 1 v' bs.length (cellsOf bs)) (hs : m ≤ bs.length ∧ Bytes bs)
    (hrow : w4.ownsRow 0 46 3 (.slice (some ⟨g, 0, none⟩) rs.length cl) rs.length (rcells (rs.set k (x.1, ⟨v', bs, m⟩)))) (hnew : ∀ i, v'.ownBlock = some i → x.2.v.ownBlock = some i ∨ w.heap.size ≤ i) :
    Turned w rp (.slice (some ⟨g, 0, none⟩) rs.length cl) rs { S with files := S.files.set k (x.1, ⟨bs, m⟩) } w4 := by
  have hA := h.renew hx (y := ⟨v', bs, m⟩) hs rfl hb hrow hv
  refine ⟨_, _, pl, lf, kp, hA, hb.mono (fun i _ e => .inr (.inl (by rw [e]; rfl))), ?_⟩
  refine rfoot_set (w := w) (fun i hi => ?_)
  rcases hnew i hi with h1 | h1
  · exact .inl (.inr (.inr ⟨x, List.mem_of_getElem? hx, h1⟩))
  · exact .inr h1
/- The bytes are stored. -/
theorem RAt.stB {g cl : Nat} (h : RAt w rp S (.slice (some ⟨g, 0, none⟩) rs.length cl) rs pl lf kp) {k : Nat} {x : Nm × REnt} (hx : rs[k]? = some x) {w3 : World} (hb3 : But (fun _ => False) w w3) {v' : Value} {bs : List Int}
    (hv : w3.ownsRow w.heap.size 5 1 v' bs.length (cellsOf bs)) (hs : x.2.synced ≤ bs.length ∧ Bytes bs) :
    Turned w rp (.slice (some ⟨g, 0, none⟩) rs.length cl) rs { S with files := S.files.set k (x.1, ⟨bs, x.2.synced⟩) } (w3.setCell ⟨g, k * 3 + 1, none⟩ v') := by
  have hglt := (h.row.lt g rfl).2
  have hbw : But (fun i => i = g) w (w3.setCell ⟨g, k * 3 + 1, none⟩ v') := (hb3.mono (fun _ _ e => e.elim)).trans' (but_set w3 g (k * 3 + 1) v')
  have hrow0 := ownsRow_but h.row hb3 (fun _ _ e => e)
  refine h.both hx (w3 := w3) hbw (own_base (ownsRow_but hv (but_set w3 g (k * 3 + 1) v') (fun i hi e => ?_)) (Nat.zero_le _)) hs ?_ (fun i hi => .inr (hv.lt i hi).1)
  · have := (hv.lt i hi).1; omega
  · rw [rcells_setB v' bs hx]
    exact (hrow0.stored (k * 3 + 1) v').1
/- How many are synced is stored. -/
theorem RAt.stS {g cl : Nat} (h : RAt w rp S (.slice (some ⟨g, 0, none⟩) rs.length cl) rs pl lf kp) {k : Nat} {x : Nm × REnt} (hx : rs[k]? = some x) {w3 : World} (hb3 : But (fun _ => False) w w3) {m : Nat} (hs : m ≤ x.2.bytes.length) :
    Turned w rp (.slice (some ⟨g, 0, none⟩) rs.length cl) rs { S with files := S.files.set k (x.1, ⟨x.2.bytes, m⟩) } (w3.setCell ⟨g, k * 3 + 2, none⟩ (.int .i64 (m : Int))) := by
  have hmem := List.mem_of_getElem? hx
  obtain ⟨cs, hgB⟩ : ∃ cs, Blk w g 46 cs := by
    rcases h.row.2 with ⟨h1, _⟩ | ⟨g', cap, cur, h1, _, h3, _⟩
    · cases h1
    · injection h1 with h1
      injection h1 with h1
      injection h1 with h1
      subst h1
      exact ⟨cur, h3⟩
  have hbw : But (fun i => i = g) w (w3.setCell ⟨g, k * 3 + 2, none⟩ (.int .i64 (m : Int))) := (hb3.mono (fun _ _ e => e.elim)).trans' (but_set w3 g (k * 3 + 2) _)
  have hrow0 := ownsRow_but h.row hb3 (fun _ _ e => e)
  refine h.both hx (w3 := w3) hbw (ownsRow_but (h.ents x hmem) hbw (fun i hi e => own_blk_ne (h.ents x hmem) hgB (by decide) (e ▸ hi))) ⟨hs, (h.ent hmem).2⟩ ?_ (fun i hi => .inl hi)
  rw [rcells_setS m hx]
  exact (hrow0.stored (k * 3 + 2) (.int .i64 (m : Int))).1
/- Both are stored. -/
theorem RAt.stBS {g cl : Nat} (h : RAt w rp S (.slice (some ⟨g, 0, none⟩) rs.length cl) rs pl lf kp) {k : Nat} {x : Nm × REnt} (hx : rs[k]? = some x) {w3 : World} (hb3 : But (fun _ => False) w w3) {v' : Value} {bs : List Int} {m : Nat}
    (hv : w3.ownsRow w.heap.size 5 1 v' bs.length (cellsOf bs)) (hs : m ≤ bs.length ∧ Bytes bs) :
    Turned w rp (.slice (some ⟨g, 0, none⟩) rs.length cl) rs { S with files := S.files.set k (x.1, ⟨bs, m⟩) } ((w3.setCell ⟨g, k * 3 + 1, none⟩ v').setCell ⟨g, k * 3 + 2, none⟩ (.int .i64 (m : Int))) := by
  have hglt := (h.row.lt g rfl).2
  have hk := get_lt hx
  have hb2 : But (fun i => i = g) w3 ((w3.setCell ⟨g, k * 3 + 1, none⟩ v').setCell ⟨g, k * 3 + 2, none⟩ (.int .i64 (m : Int))) := (but_set w3 g (k * 3 + 1) v').trans' (but_set _ g (k * 3 + 2) _)
  have hbw : But (fun i => i = g) w ((w3.setCell ⟨g, k * 3 + 1, none⟩ v').setCell ⟨g, k * 3 + 2, none⟩ (.int .i64 (m : Int))) := (hb3.mono (fun _ _ e => e.elim)).trans' hb2
  have hrow0 := ownsRow_but h.row hb3 (fun _ _ e => e)
  refine h.both hx (w3 := w3) hbw (own_base (ownsRow_but hv hb2 (fun i hi e => ?_)) (Nat.zero_le _)) hs ?_ (fun i hi => .inr (hv.lt i hi).1)
  · have := (hv.lt i hi).1; omega
  · have hx2 : (rs.set k (x.1, ⟨v', bs, x.2.synced⟩))[k]? = some (x.1, ⟨v', bs, x.2.synced⟩) := by rw [List.getElem?_set_self (by omega)]
    have e1 := rcells_setB v' bs hx
    have e2 := rcells_setS m hx2
    simp only [List.set_set] at e2
    rw [e2, e1]
    exact ((hrow0.stored (k * 3 + 1) v').1.stored (k * 3 + 2) (.int .i64 (m : Int))).1
end
end Go.Proofs.Ytiaaadeenbjciaa.Disk
