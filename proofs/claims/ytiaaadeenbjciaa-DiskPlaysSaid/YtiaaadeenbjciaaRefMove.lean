/- Contracts of the document's put and drop: what becomes of its disk. -/
import Derived.Test.YtiaaadeenbjciaaRefDrop
import Derived.Test.YtiaaadeenbjciaaDiskGone
namespace Go.Proofs.Ytiaaadeenbjciaa.Disk
open Go.Proofs.Ytiaaadeenbjciaa.Mem
open Go.ChangeShapes Go.WideShapes Go.ChangeAt Go.RowKit
open Go.Proofs (encStr)
set_option linter.unusedVariables false
section
variable {w w' : World} {rp : Nat} {S : St} {lv : Value} {rs : List (Nm × REnt)} {pl : Bool} {lf kp : Int}
theorem rent_one {e : REnt} (h : REntAt w e) : e.v.oneCell' = true := by
  rcases h.2 with ⟨h1, _⟩ | ⟨g, cap, cur, h1, _⟩ <;> rw [h1] <;> rfl
theorem rise_del {α : Type} {l : List (Nm × α)} (h : Rise l) (n : Nm) : Rise (del n l) := List.Pairwise.filter _ h
/- The row of files is a new one. -/
theorem relisted {w1 : World} {v1 : Value} {rs' : List (Nm × REnt)} (h : RAt w rp S lv rs pl lf kp) (hb : Below w.heap.size w w1) (ho : w1.ownsRow w.heap.size 46 3 v1 rs'.length (rcells rs'))
    (hE : ∀ x ∈ rs', REntAt w x.2) (hr : Rise (mapv REnt.file rs')) (hg : Good { S with files := mapv REnt.file rs' }) :
    RAt (w1.setCell ⟨rp, 1, none⟩ v1) rp { S with files := mapv REnt.file rs' } v1 rs' pl lf kp ∧ But (fun k => k = rp) w (w1.setCell ⟨rp, 1, none⟩ v1) ∧ (∀ k, v1.ownBlock = some k → w.heap.size ≤ k) := by
  have hlt := h.blk.lt
  have hb1 : But (fun k => k = rp) w1 (w1.setCell ⟨rp, 1, none⟩ v1) := but_set w1 rp 1 _
  have hbw : But (fun k => k = rp) w (w1.setCell ⟨rp, 1, none⟩ v1) := (But.of_new hb).trans' hb1
  refine ⟨h.relist hbw ((h.blk.but (But.of_new hb (S := fun _ => False)) (fun e => e)).set_ 1 _) (own_base (ownsRow_but ho hb1 (fun k hk e => ?_)) (Nat.zero_le _)) (fun x hx => ownsRow_but (hE x hx) hbw (fun k hk e => ?_)) hr hg, hbw, fun k hk => (ho.lt k hk).1⟩
  · have := (ho.lt k hk).1; omega
  · exact own_blk_ne (hE x hx) h.blk (by decide) (e ▸ hk)
theorem rput_any (h : RAt w rp S lv rs pl lf kp) (hn : rs.length ≤ 1000000) (s : ByteArray) (e : REnt) (he : REntAt w e) (hg : e.synced ≤ e.bytes.length ∧ Bytes e.bytes) (hl : look s.data.toList rs = none) :
    Calls Try.prog 36 #[.pointer (some ⟨rp, 0, none⟩), .agg #[.string s, e.v, .int .i64 e.synced]] w fun x w' => x = .returned (.tuple #[]) ∧
      ∃ lv', RAt w' rp { S with files := ins s.data.toList e.file S.files } lv' (ins s.data.toList e rs) pl lf kp ∧ But (fun k => k = rp) w w' ∧ ∀ k, lv'.ownBlock = some k → w.heap.size ≤ k := by
  have hm : mapv REnt.file (ins s.data.toList e rs) = ins s.data.toList e.file S.files := by rw [mapv_ins, h.files]
  have hlS : look s.data.toList S.files = none := by rw [h.look, hl]; rfl
  have hrise : Rise (ins s.data.toList e.file S.files) := Rise.ins h.rise hlS
  refine (rput_cells h hn s e.v e.synced (rent_one he)).mono ?_
  rintro x w' ⟨rfl, w1, v1, rfl, hb, ho⟩
  have ec : rcells (ins s.data.toList e rs) = rcells (rs.take (pos s.data.toList rs)) ++ [.string s, e.v, .int .i64 e.synced] ++ rcells (rs.drop (pos s.data.toList rs)) := by
    rw [ins_pos, rcells_append, List.append_assoc]; rfl
  have ho' : w1.ownsRow w.heap.size 46 3 v1 (ins s.data.toList e rs).length (rcells (ins s.data.toList e rs)) := by
    rw [ec, length_ins]; exact ho
  obtain ⟨k1, k2, k3⟩ := relisted h hb ho' (fun x hx => by rcases mem_ins.1 hx with rfl | hx; exact he; exact h.ents x hx) (by rw [hm]; exact hrise) (by rw [hm]; exact ⟨hrise.apart, fun x hx => by rcases mem_ins.1 hx with rfl | hx; exact hg; exact h.good.synced x hx, h.good.plan⟩)
  rw [hm] at k1
  exact ⟨rfl, v1, k1, k2, k3⟩
theorem rdrop_any (h : RAt w rp S lv rs pl lf kp) (hn : rs.length ≤ 1000000) (s : ByteArray) :
    Calls Try.prog 37 #[.pointer (some ⟨rp, 0, none⟩), .string s] w fun x w' => x = .returned (.tuple #[]) ∧
      ∃ lv', RAt w' rp { S with files := del s.data.toList S.files } lv' (del s.data.toList rs) pl lf kp ∧ But (fun k => k = rp) w w' ∧ ∀ k, lv'.ownBlock = some k → lv.ownBlock = some k ∨ w.heap.size ≤ k := by
  rcases hl : look s.data.toList rs with _ | e
  · have hlS : look s.data.toList S.files = none := by rw [h.look, hl]; rfl
    rw [del_none hl, del_none hlS]
    refine (rdrop_none h hn s hl).mono ?_
    rintro x w' ⟨rfl, n, rfl⟩
    exact ⟨rfl, lv, h.but (T := fun _ => False) ((But.refl _ w).drewN n) (fun _ _ h => h), (But.refl _ w).drewN n, fun k hk => .inl hk⟩
  · have hm : mapv REnt.file (del s.data.toList rs) = del s.data.toList S.files := by rw [mapv_del, h.files]
    have hrise : Rise (del s.data.toList S.files) := rise_del h.rise _
    have hlen := length_del h.riseR.apart hl
    refine (rdrop_cells h hn s hl).mono ?_
    rintro x w' ⟨rfl, w1, v1, rfl, hb, ho⟩
    have ho' : w1.ownsRow w.heap.size 46 3 v1 (del s.data.toList rs).length (rcells (del s.data.toList rs)) := by
      have e1 : (del s.data.toList rs).length = rs.length - 1 := by omega
      rw [e1, del_pos h.riseR hl, rcells_append]; exact ho
    obtain ⟨k1, k2, k3⟩ := relisted h hb ho' (fun x hx => h.ents x (mem_del.1 hx).1) (by rw [hm]; exact hrise) (by rw [hm]; exact good_del h.good _)
    rw [hm] at k1
    exact ⟨rfl, v1, k1, k2, fun k hk => .inr (k3 k hk)⟩
end
end Go.Proofs.Ytiaaadeenbjciaa.Disk
