/- The law's 'same': a disk that is in the document's state is told to be the document's. MADE BY gen-same.py -/
import Derived.Test.YtiaaadeenbjciaaRefDoAll
import Derived.Test.YtiaaadeenbjciaaDiskList
import Derived.Test.YtiaaadeenbjciaaDiskRead
import Derived.Test.YtiaaadeenbjciaaDiskUp
namespace Go.Proofs.Ytiaaadeenbjciaa.Disk
open Go.Proofs.Ytiaaadeenbjciaa Go.Proofs.Ytiaaadeenbjciaa.Mem
open Go.ChangeShapes Go.WideShapes Go.ChangeAt Go.RowKit
open Go.Proofs (encStr)
set_option linter.unusedVariables false
set_option linter.unusedSimpArgs false
section
variable {w w' : World} {p mb rp : Nat} {S : St} {cr : Option Addr} {es : List (Nm × Ent)} {D : DataW Nat} {lv : Value} {rs : List (Nm × REnt)} {pl : Bool} {lf kp : Int}
theorem below_drewN {B : Nat} (h : Below B w w') (n : Nat) : Below B w (w'.drewN n) := ⟨h.os, h.tape, h.output, h.size, h.block⟩
theorem RAt.below (h : RAt w rp S lv rs pl lf kp) (hb : Below w.heap.size w w') : RAt w' rp S lv rs pl lf kp := h.but (But.of_below hb) (fun k hk hge => by have := h.lt k hk; omega)
theorem own_one {base n : Nat} {t : TypeId} {v : Value} {xs : List Value} (h : w.ownsRow base t 1 v n xs) : ∃ a c, v = .slice a n c ∧ n ≤ c ∧ c ≤ maxLen ∧ ∀ i, i < n → ∃ g, a = some ⟨g, 0, none⟩ ∧ w.cell? ⟨g, i, none⟩ = xs[i]? ∧ g < w.heap.size := by
  have h0 := h
  rcases h.2 with ⟨h1, h2⟩ | ⟨g, cap, cur, h1, h2, h3, h4, h5, h6, h7⟩
  · exact ⟨none, 0, by rw [h1, h2], by omega, Nat.zero_le _, fun i hi => by omega⟩
  · refine ⟨_, cap, h1, h4, h5, fun i hi => ⟨g, rfl, ?_, ?_⟩⟩
    · subst h1
      exact h0.cellAt i (by omega)
    · exact (h0.lt g (by rw [h1]; rfl)).2
theorem names_one (hA : At w p S mb cr es D) (hR : RAt w rp S lv rs pl lf kp) : es.length = rs.length ∧ ∀ (k : Nat) (x : Nm × REnt), rs[k]? = some x → ∃ e : Ent, es[k]? = some (x.1, e) ∧ e.file = x.2.file := by
  have h1 : mapv Ent.file es = mapv REnt.file rs := by rw [hA.files, hR.files]
  have hl : es.length = rs.length := by
    have := congrArg List.length h1
    rw [length_mapv, length_mapv] at this
    exact this
  refine ⟨hl, fun k x hx => ?_⟩
  have hk := get_lt hx
  have he : es[k]? = some es[k] := List.getElem?_eq_getElem (by omega)
  have h2 : (mapv Ent.file es)[k]? = (mapv REnt.file rs)[k]? := by rw [h1]
  unfold mapv at h2
  rw [List.getElem?_map, List.getElem?_map, hx, he] at h2
  simp only [Option.map_some, Option.some.injEq, Prod.mk.injEq] at h2
  exact ⟨es[k].2, by rw [he, ← h2.1], h2.2⟩
set_option maxRecDepth 100000 in
set_option maxHeartbeats 8000000 in
theorem same_any (hA : At w p S mb cr es D) (hR : RAt w rp S lv rs pl lf kp) (hn : rs.length ≤ 1000000) (hu : used S ≤ 1000000000) (hsh : ∀ x ∈ S.files, x.1.length ≤ 100) :
    Calls Try.prog 23 #[.pointer (some ⟨p, 0, none⟩), .pointer (some ⟨rp, 0, none⟩)] w fun x w' => x = .returned (.bool true) ∧ Below w.heap.size w w' := by
  obtain ⟨hel, hnames⟩ := names_one hA hR
  have hrE : Rising es := Rise.of_mapv (f := Ent.file) (hA.files.symm ▸ hR.rise)
  have HA := Lib.hid hA
  have HR := Lib.hid hR
  have HEL := Lib.hid hel
  have HNM := Lib.hid hnames
  have HU := Lib.hid hu
  have HN := Lib.hid hn
  have HSH := Lib.hid hsh
  have HLI := Lib.hid (list_at hA hrE (by omega))
  have hnn : (rs.length : Int) ≤ 1000000 := by omega
  clear hA hR hel hnames hu hn hrE hsh
  go_enter Try.func23, Try.ntmps23
  go_wp2_with fail
  refine HLI.out.mono ?_
  rintro e w1 ⟨v, rfl, ho, hb1⟩
  rw [HEL.out] at ho
  obtain ⟨al, cl, rfl, hlc, hcm, hsee⟩ := own_one ho
  have HSEE := Lib.hid hsee
  have hA1 := HA.out.below hb1
  have hR1 := HR.out.below hb1
  have HB1 := Lib.hid hb1
  have hsz1 := hb1.size
  clear hsee ho hb1 HLI hlc hcm
  obtain ⟨ar, crr, rfl, hlr, hcr, -⟩ := hR1.shape
  have HA1 := Lib.hid hA1
  have HR1 := Lib.hid hR1
  have d1 : w1.cell? ⟨rp, 1, none⟩ = some (.slice ar rs.length crr) := hR1.blk.cell 1
  have d2 : w1.cell? ⟨rp, 2, none⟩ = some (.int .i64 S.effects) := hR1.blk.cell 2
  have d6 : w1.cell? ⟨rp, 6, none⟩ = some (.bool S.down) := hR1.blk.cell 6
  have hrp := hR1.blk.lt
  clear hA1 hR1 hlr hcr
  go_wp2_with fail
  refine Late.region_goes (fun w' => w'.cell? ⟨rp, 1, none⟩ = some (.slice ar rs.length crr) ∧ w'.cell? ⟨rp, 2, none⟩ = some (.int .i64 S.effects) ∧ w'.cell? ⟨rp, 6, none⟩ = some (.bool S.down)) (fun _ => false) (by kernel_rfl) ?_ (fun hH => ?_)
  · exact ⟨d1, d2, d6⟩
  refine Late.Goes.take (i := 0) (v := ?_) (by simp only [List.getElem?_toArray, List.getElem?_cons_succ, List.getElem?_cons_zero]; rfl) (by kernel_rfl) (by kernel_rfl) (by kernel_rfl) (by kernel_rfl) (by exact fun _ _ _ h => h) (Or.inl ⟨by rfl, ?_⟩) hH ?_
  rotate_left
  · (intro wy hSw; (try dsimp only at hSw); obtain ⟨hs1, hs2, hs6⟩ := hSw; go_simp; try (with_reducible rfl))
  try simp only [Act.put, List.setIfInBounds_toArray, List.set_cons_zero, List.set_cons_succ]
  refine Late.Goes.take (i := 1) (v := ?_) (by simp only [List.getElem?_toArray, List.getElem?_cons_succ, List.getElem?_cons_zero]; rfl) (by kernel_rfl) (by kernel_rfl) (by kernel_rfl) (by kernel_rfl) (by exact fun _ _ _ h => h) (Or.inl ⟨by rfl, ?_⟩) hH ?_
  rotate_left
  · (intro wy hSw; (try dsimp only at hSw); obtain ⟨hs1, hs2, hs6⟩ := hSw; go_simp; try (with_reducible rfl))
  try simp only [Act.put, List.setIfInBounds_toArray, List.set_cons_zero, List.set_cons_succ]
  refine Late.Goes.take (i := 2) (v := ?_) (by simp only [List.getElem?_toArray, List.getElem?_cons_succ, List.getElem?_cons_zero]; rfl) (by kernel_rfl) (by kernel_rfl) (by kernel_rfl) (by kernel_rfl) (by exact fun _ _ _ h => h) (Or.inl ⟨by rfl, ?_⟩) hH ?_
  rotate_left
  · (intro wy hSw; (try dsimp only at hSw); obtain ⟨hs1, hs2, hs6⟩ := hSw; go_simp; try (with_reducible rfl))
  try simp only [Act.put, List.setIfInBounds_toArray, List.set_cons_zero, List.set_cons_succ]
  refine Late.Goes.take (i := 3) (v := ?_) (by simp only [List.getElem?_toArray, List.getElem?_cons_succ, List.getElem?_cons_zero]; rfl) (by kernel_rfl) (by kernel_rfl) (by kernel_rfl) (by kernel_rfl) (by exact fun _ _ _ h => h) (Or.inl ⟨by rfl, ?_⟩) hH ?_
  rotate_left
  · (intro wy hSw; (try dsimp only at hSw); obtain ⟨hs1, hs2, hs6⟩ := hSw; go_simp; try (with_reducible rfl))
  try simp only [Act.put, List.setIfInBounds_toArray, List.set_cons_zero, List.set_cons_succ]
  refine Late.Goes.take (i := 4) (v := ?_) (by simp only [List.getElem?_toArray, List.getElem?_cons_succ, List.getElem?_cons_zero]; rfl) (by kernel_rfl) (by kernel_rfl) (by kernel_rfl) (by kernel_rfl) (by exact fun _ _ _ h => h) (Or.inl ⟨by rfl, ?_⟩) hH ?_
  rotate_left
  · (intro wy hSw; (try dsimp only at hSw); obtain ⟨hs1, hs2, hs6⟩ := hSw; go_simp; try (with_reducible rfl))
  try simp only [Act.put, List.setIfInBounds_toArray, List.set_cons_zero, List.set_cons_succ]
  refine Late.Goes.take (i := 5) (v := ?_) (by simp only [List.getElem?_toArray, List.getElem?_cons_succ, List.getElem?_cons_zero]; rfl) (by kernel_rfl) (by kernel_rfl) (by kernel_rfl) (by kernel_rfl) (by exact fun _ _ _ h => h) (Or.inl ⟨by rfl, ?_⟩) hH ?_
  rotate_left
  · (intro wy hSw; (try dsimp only at hSw); obtain ⟨hs1, hs2, hs6⟩ := hSw; go_simp; try (with_reducible rfl))
  try simp only [Act.put, List.setIfInBounds_toArray, List.set_cons_zero, List.set_cons_succ]
  refine Late.Goes.take (i := 6) (v := ?_) (by simp only [List.getElem?_toArray, List.getElem?_cons_succ, List.getElem?_cons_zero]; rfl) (by kernel_rfl) (by kernel_rfl) (by kernel_rfl) (by kernel_rfl) (by exact fun _ _ _ h => h) (Or.inl ⟨by rfl, ?_⟩) hH ?_
  rotate_left
  · (intro wy hSw; (try dsimp only at hSw); obtain ⟨hs1, hs2, hs6⟩ := hSw; go_simp; try (with_reducible rfl))
  try simp only [Act.put, List.setIfInBounds_toArray, List.set_cons_zero, List.set_cons_succ]
  refine Late.Goes.take (i := 7) (v := ?_) (by simp only [List.getElem?_toArray, List.getElem?_cons_succ, List.getElem?_cons_zero]; rfl) (by kernel_rfl) (by kernel_rfl) (by kernel_rfl) (by kernel_rfl) (by exact fun _ _ _ h => h) (Or.inl ⟨by rfl, ?_⟩) hH ?_
  rotate_left
  · (intro wy hSw; (try dsimp only at hSw); obtain ⟨hs1, hs2, hs6⟩ := hSw; go_simp; try (with_reducible rfl))
  try simp only [Act.put, List.setIfInBounds_toArray, List.set_cons_zero, List.set_cons_succ]
  refine Late.Goes.take (i := 8) (v := ?_) (by simp only [List.getElem?_toArray, List.getElem?_cons_succ, List.getElem?_cons_zero]; rfl) (by kernel_rfl) (by kernel_rfl) (by kernel_rfl) (by kernel_rfl) (by exact fun _ _ _ h => h) (Or.inl ⟨by rfl, ?_⟩) hH ?_
  rotate_left
  · (intro wy hSw; (try dsimp only at hSw); obtain ⟨hs1, hs2, hs6⟩ := hSw; go_simp; try (with_reducible rfl))
  try simp only [Act.put, List.setIfInBounds_toArray, List.set_cons_zero, List.set_cons_succ]
  refine Late.Goes.take (i := 9) (v := ?_) (by simp only [List.getElem?_toArray, List.getElem?_cons_succ, List.getElem?_cons_zero]; rfl) (by kernel_rfl) (by kernel_rfl) (by kernel_rfl) (by kernel_rfl) (by exact fun _ _ _ h => h) (Or.inl ⟨by rfl, ?_⟩) hH ?_
  rotate_left
  · (intro wy hSw; (try dsimp only at hSw); obtain ⟨hs1, hs2, hs6⟩ := hSw; go_simp; try (with_reducible rfl))
  try simp only [Act.put, List.setIfInBounds_toArray, List.set_cons_zero, List.set_cons_succ]
  refine Late.Goes.take (i := 11) (v := ?_) (by simp only [List.getElem?_toArray, List.getElem?_cons_succ, List.getElem?_cons_zero]; rfl) (by kernel_rfl) (by kernel_rfl) (by kernel_rfl) (by kernel_rfl) (by exact fun _ _ _ h => h) (Or.inl ⟨by rfl, ?_⟩) hH ?_
  rotate_left
  · (intro wy hSw; (try dsimp only at hSw); obtain ⟨hs1, hs2, hs6⟩ := hSw; go_simp; try (with_reducible rfl))
  try simp only [Act.put, List.setIfInBounds_toArray, List.set_cons_zero, List.set_cons_succ]
  refine Late.Goes.one (i := 10) (by kernel_rfl) (by simp only [List.getElem?_toArray, List.getElem?_cons_succ, List.getElem?_cons_zero]; rfl) (fun K hK => ?_)
  clear hH
  go_simp
  go_at_call 31
  refine (used_at (HA1.out.below ((Below.refl w1.heap.size w1).drew)) HU.out).mono ?_
  rintro e w2 ⟨rfl, hb2⟩
  have hb2 : Below w1.heap.size w1 w2 := ((Below.refl w1.heap.size w1).drew).trans hb2
  have hR2 := HR1.out.below hb2
  have hA2 := HA1.out.below hb2
  have HR2 := Lib.hid hR2
  have HA2 := Lib.hid hA2
  have d1' : w2.cell? ⟨rp, 1, none⟩ = some (.slice ar rs.length crr) := hR2.blk.cell 1
  have d2' : w2.cell? ⟨rp, 2, none⟩ = some (.int .i64 S.effects) := hR2.blk.cell 2
  have d6' : w2.cell? ⟨rp, 6, none⟩ = some (.bool S.down) := hR2.blk.cell 6
  clear hR2 hA2 d1 d2 d6
  refine hK.out _ _ ?_ (fun hH => ?_)
  · exact fun _ => ⟨d1', d2', d6'⟩
  clear hK K
  have hH := hH rfl
  try simp only [Act.put, List.setIfInBounds_toArray, List.set_cons_zero, List.set_cons_succ]
  refine Late.Goes.one (i := 12) (by kernel_rfl) (by simp only [List.getElem?_toArray, List.getElem?_cons_succ, List.getElem?_cons_zero]; rfl) (fun K hK => ?_)
  clear hH
  go_simp
  go_at_call 34
  refine (rused_at HR2.out HU.out HN.out).mono ?_
  rintro e w' ⟨rfl, rfl⟩
  refine hK.out _ _ ?_ (fun hH => ?_)
  · exact fun _ => ⟨d1', d2', d6'⟩
  clear hK K
  have hH := hH rfl
  try simp only [Act.put, List.setIfInBounds_toArray, List.set_cons_zero, List.set_cons_succ]
  refine Late.Goes.take (i := 13) (v := ?_) (by simp only [List.getElem?_toArray, List.getElem?_cons_succ, List.getElem?_cons_zero]; rfl) (by kernel_rfl) (by kernel_rfl) (by kernel_rfl) (by kernel_rfl) (by exact fun _ _ _ h => h) (Or.inl ⟨by rfl, ?_⟩) hH ?_
  rotate_left
  · (intro wy hSw; (try dsimp only at hSw); obtain ⟨hs1, hs2, hs6⟩ := hSw; go_simp; try (with_reducible rfl))
  try simp only [Act.put, List.setIfInBounds_toArray, List.set_cons_zero, List.set_cons_succ]
  refine Late.Goes.take (i := 14) (v := ?_) (by simp only [List.getElem?_toArray, List.getElem?_cons_succ, List.getElem?_cons_zero]; rfl) (by kernel_rfl) (by kernel_rfl) (by kernel_rfl) (by kernel_rfl) (by exact fun _ _ _ h => h) (Or.inl ⟨by rfl, ?_⟩) hH ?_
  rotate_left
  · (intro wy hSw; (try dsimp only at hSw); obtain ⟨hs1, hs2, hs6⟩ := hSw; go_simp; try (with_reducible rfl))
  try simp only [Act.put, List.setIfInBounds_toArray, List.set_cons_zero, List.set_cons_succ]
  refine Late.Goes.take (i := 15) (v := ?_) (by simp only [List.getElem?_toArray, List.getElem?_cons_succ, List.getElem?_cons_zero]; rfl) (by kernel_rfl) (by kernel_rfl) (by kernel_rfl) (by kernel_rfl) (by exact fun _ _ _ h => h) (Or.inl ⟨by rfl, ?_⟩) hH ?_
  rotate_left
  · (intro wy hSw; (try dsimp only at hSw); obtain ⟨hs1, hs2, hs6⟩ := hSw; go_simp; try (with_reducible rfl))
  try simp only [Act.put, List.setIfInBounds_toArray, List.set_cons_zero, List.set_cons_succ]
  refine Late.Goes.take (i := 16) (v := ?_) (by simp only [List.getElem?_toArray, List.getElem?_cons_succ, List.getElem?_cons_zero]; rfl) (by kernel_rfl) (by kernel_rfl) (by kernel_rfl) (by kernel_rfl) (by exact fun _ _ _ h => h) (Or.inl ⟨by rfl, ?_⟩) hH ?_
  rotate_left
  · (intro wy hSw; (try dsimp only at hSw); obtain ⟨hs1, hs2, hs6⟩ := hSw; go_simp; try (with_reducible rfl))
  try simp only [Act.put, List.setIfInBounds_toArray, List.set_cons_zero, List.set_cons_succ]
  refine Late.Goes.take (i := 18) (v := ?_) (by simp only [List.getElem?_toArray, List.getElem?_cons_succ, List.getElem?_cons_zero]; rfl) (by kernel_rfl) (by kernel_rfl) (by kernel_rfl) (by kernel_rfl) (by exact fun _ _ _ h => h) (Or.inl ⟨by rfl, ?_⟩) hH ?_
  rotate_left
  · (intro wy hSw; (try dsimp only at hSw); obtain ⟨hs1, hs2, hs6⟩ := hSw; go_simp; try (with_reducible rfl))
  try simp only [Act.put, List.setIfInBounds_toArray, List.set_cons_zero, List.set_cons_succ]
  refine Late.Goes.take (i := 19) (v := ?_) (by simp only [List.getElem?_toArray, List.getElem?_cons_succ, List.getElem?_cons_zero]; rfl) (by kernel_rfl) (by kernel_rfl) (by kernel_rfl) (by kernel_rfl) (by exact fun _ _ _ h => h) (Or.inl ⟨by rfl, ?_⟩) hH ?_
  rotate_left
  · (intro wy hSw; (try dsimp only at hSw); obtain ⟨hs1, hs2, hs6⟩ := hSw; go_simp; try (with_reducible rfl))
  try simp only [Act.put, List.setIfInBounds_toArray, List.set_cons_zero, List.set_cons_succ]
  refine Late.Goes.take (i := 20) (v := ?_) (by simp only [List.getElem?_toArray, List.getElem?_cons_succ, List.getElem?_cons_zero]; rfl) (by kernel_rfl) (by kernel_rfl) (by kernel_rfl) (by kernel_rfl) (by exact fun _ _ _ h => h) (Or.inl ⟨by rfl, ?_⟩) hH ?_
  rotate_left
  · (intro wy hSw; (try dsimp only at hSw); obtain ⟨hs1, hs2, hs6⟩ := hSw; go_simp; try (with_reducible rfl))
  try simp only [Act.put, List.setIfInBounds_toArray, List.set_cons_zero, List.set_cons_succ]
  refine Late.Goes.take (i := 21) (v := ?_) (by simp only [List.getElem?_toArray, List.getElem?_cons_succ, List.getElem?_cons_zero]; rfl) (by kernel_rfl) (by kernel_rfl) (by kernel_rfl) (by kernel_rfl) (by exact fun _ _ _ h => h) (Or.inl ⟨by rfl, ?_⟩) hH ?_
  rotate_left
  · (intro wy hSw; (try dsimp only at hSw); obtain ⟨hs1, hs2, hs6⟩ := hSw; go_simp; try (with_reducible rfl))
  try simp only [Act.put, List.setIfInBounds_toArray, List.set_cons_zero, List.set_cons_succ]
  refine Late.Goes.one (i := 17) (by kernel_rfl) (by simp only [List.getElem?_toArray, List.getElem?_cons_succ, List.getElem?_cons_zero]; rfl) (fun K hK => ?_)
  clear hH
  go_simp
  go_at_call 30
  refine (down_any p S _ w2 HA2.out.has).mono ?_
  rintro e w' ⟨rfl, rfl⟩
  refine hK.out _ _ ?_ (fun hH => ?_)
  · exact fun _ => ⟨d1', d2', d6'⟩
  clear hK K
  have hH := hH rfl
  try simp only [Act.put, List.setIfInBounds_toArray, List.set_cons_zero, List.set_cons_succ]
  refine Late.Goes.take (i := 22) (v := ?_) (by simp only [List.getElem?_toArray, List.getElem?_cons_succ, List.getElem?_cons_zero]; rfl) (by kernel_rfl) (by kernel_rfl) (by kernel_rfl) (by kernel_rfl) (by exact fun _ _ _ h => h) (Or.inl ⟨by rfl, ?_⟩) hH ?_
  rotate_left
  · (intro wy hSw; (try dsimp only at hSw); obtain ⟨hs1, hs2, hs6⟩ := hSw; go_simp; try (with_reducible rfl))
  try simp only [Act.put, List.setIfInBounds_toArray, List.set_cons_zero, List.set_cons_succ]
  refine Late.Goes.take (i := 23) (v := ?_) (by simp only [List.getElem?_toArray, List.getElem?_cons_succ, List.getElem?_cons_zero]; rfl) (by kernel_rfl) (by kernel_rfl) (by kernel_rfl) (by kernel_rfl) (by exact fun _ _ _ h => h) (Or.inl ⟨by rfl, ?_⟩) hH ?_
  rotate_left
  · (intro wy hSw; (try dsimp only at hSw); obtain ⟨hs1, hs2, hs6⟩ := hSw; go_simp; try (with_reducible rfl))
  try simp only [Act.put, List.setIfInBounds_toArray, List.set_cons_zero, List.set_cons_succ]
  refine Late.Goes.take (i := 24) (v := ?_) (by simp only [List.getElem?_toArray, List.getElem?_cons_succ, List.getElem?_cons_zero]; rfl) (by kernel_rfl) (by kernel_rfl) (by kernel_rfl) (by kernel_rfl) (by exact fun _ _ _ h => h) (Or.inl ⟨by rfl, ?_⟩) hH ?_
  rotate_left
  · (intro wy hSw; (try dsimp only at hSw); obtain ⟨hs1, hs2, hs6⟩ := hSw; go_simp; try (with_reducible rfl))
  try simp only [Act.put, List.setIfInBounds_toArray, List.set_cons_zero, List.set_cons_succ]
  refine Late.Goes.take (i := 25) (v := ?_) (by simp only [List.getElem?_toArray, List.getElem?_cons_succ, List.getElem?_cons_zero]; rfl) (by kernel_rfl) (by kernel_rfl) (by kernel_rfl) (by kernel_rfl) (by exact fun _ _ _ h => h) (Or.inl ⟨by rfl, ?_⟩) hH ?_
  rotate_left
  · (intro wy hSw; (try dsimp only at hSw); obtain ⟨hs1, hs2, hs6⟩ := hSw; go_simp; try (with_reducible rfl))
  try simp only [Act.put, List.setIfInBounds_toArray, List.set_cons_zero, List.set_cons_succ]
  refine Late.Goes.take (i := 27) (v := ?_) (by simp only [List.getElem?_toArray, List.getElem?_cons_succ, List.getElem?_cons_zero]; rfl) (by kernel_rfl) (by kernel_rfl) (by kernel_rfl) (by kernel_rfl) (by exact fun _ _ _ h => h) (Or.inl ⟨by rfl, ?_⟩) hH ?_
  rotate_left
  · (intro wy hSw; (try dsimp only at hSw); obtain ⟨hs1, hs2, hs6⟩ := hSw; go_simp; try (with_reducible rfl))
  try simp only [Act.put, List.setIfInBounds_toArray, List.set_cons_zero, List.set_cons_succ]
  refine Late.Goes.take (i := 28) (v := ?_) (by simp only [List.getElem?_toArray, List.getElem?_cons_succ, List.getElem?_cons_zero]; rfl) (by kernel_rfl) (by kernel_rfl) (by kernel_rfl) (by kernel_rfl) (by exact fun _ _ _ h => h) (Or.inl ⟨by rfl, ?_⟩) hH ?_
  rotate_left
  · (intro wy hSw; (try dsimp only at hSw); obtain ⟨hs1, hs2, hs6⟩ := hSw; go_simp; try (with_reducible rfl))
  try simp only [Act.put, List.setIfInBounds_toArray, List.set_cons_zero, List.set_cons_succ]
  refine Late.Goes.take (i := 29) (v := ?_) (by simp only [List.getElem?_toArray, List.getElem?_cons_succ, List.getElem?_cons_zero]; rfl) (by kernel_rfl) (by kernel_rfl) (by kernel_rfl) (by kernel_rfl) (by exact fun _ _ _ h => h) (Or.inl ⟨by rfl, ?_⟩) hH ?_
  rotate_left
  · (intro wy hSw; (try dsimp only at hSw); obtain ⟨hs1, hs2, hs6⟩ := hSw; go_simp; try (with_reducible rfl))
  try simp only [Act.put, List.setIfInBounds_toArray, List.set_cons_zero, List.set_cons_succ]
  refine Late.Goes.take (i := 30) (v := ?_) (by simp only [List.getElem?_toArray, List.getElem?_cons_succ, List.getElem?_cons_zero]; rfl) (by kernel_rfl) (by kernel_rfl) (by kernel_rfl) (by kernel_rfl) (by exact fun _ _ _ h => h) (Or.inl ⟨by rfl, ?_⟩) hH ?_
  rotate_left
  · (intro wy hSw; (try dsimp only at hSw); obtain ⟨hs1, hs2, hs6⟩ := hSw; go_simp; try (with_reducible rfl))
  try simp only [Act.put, List.setIfInBounds_toArray, List.set_cons_zero, List.set_cons_succ]
  refine Late.Goes.one (i := 26) (by kernel_rfl) (by simp only [List.getElem?_toArray, List.getElem?_cons_succ, List.getElem?_cons_zero]; rfl) (fun K hK => ?_)
  clear hH
  go_simp
  go_at_call 39
  refine (effects_any p S _ w2 HA2.out.has).mono ?_
  rintro e w' ⟨rfl, rfl⟩
  refine hK.out _ _ ?_ (fun hH => ?_)
  · exact fun _ => ⟨d1', d2', d6'⟩
  clear hK K
  have hH := hH rfl
  try simp only [Act.put, List.setIfInBounds_toArray, List.set_cons_zero, List.set_cons_succ]
  refine Late.Goes.take (i := 31) (v := ?_) (by simp only [List.getElem?_toArray, List.getElem?_cons_succ, List.getElem?_cons_zero]; rfl) (by kernel_rfl) (by kernel_rfl) (by kernel_rfl) (by kernel_rfl) (by exact fun _ _ _ h => h) (Or.inl ⟨by rfl, ?_⟩) hH ?_
  rotate_left
  · (intro wy hSw; (try dsimp only at hSw); obtain ⟨hs1, hs2, hs6⟩ := hSw; go_simp; try (with_reducible rfl))
  try simp only [Act.put, List.setIfInBounds_toArray, List.set_cons_zero, List.set_cons_succ]
  refine Late.Goes.take (i := 32) (v := ?_) (by simp only [List.getElem?_toArray, List.getElem?_cons_succ, List.getElem?_cons_zero]; rfl) (by kernel_rfl) (by kernel_rfl) (by kernel_rfl) (by kernel_rfl) (by exact fun _ _ _ h => h) (Or.inl ⟨by rfl, ?_⟩) hH ?_
  rotate_left
  · (intro wy hSw; (try dsimp only at hSw); obtain ⟨hs1, hs2, hs6⟩ := hSw; go_simp; try (with_reducible rfl))
  try simp only [Act.put, List.setIfInBounds_toArray, List.set_cons_zero, List.set_cons_succ]
  refine Late.Goes.done (by kernel_rfl) ?_ _
  have HB2 := Lib.hid hb2
  have hsz2 := hb2.size
  clear d1' d2' d6' hb2
  go_wp2
  go_loopw [6, 7, 8, 9, 10] (fun i _ _ _ _ wr => ∃ k : Nat, k ≤ rs.length ∧ i = .int .i64 (k : Int) ∧ Below w2.heap.size w2 wr) (fun i _ _ _ _ _ => rs.length - (intOf i).toNat)
  case atStart => exact ⟨0, Nat.zero_le _, rfl, Below.refl _ _⟩
  case round =>
    obtain ⟨k, hk, rfl, hbr⟩ := hrel
    by_cases hlt : k < rs.length
    · obtain ⟨x, hx⟩ : ∃ x, rs[k]? = some x := ⟨_, List.getElem?_eq_getElem hlt⟩
      have hmem := List.mem_of_getElem? hx
      obtain ⟨e, hes, hfile⟩ := HNM.out k x hx
      have hRr := HR2.out.below hbr
      have hAr := HA2.out.below hbr
      obtain ⟨a', c', e1, hlr, hcr, hc⟩ := hRr.shape
      injection e1 with e1 _ e3
      subst e1 e3
      obtain ⟨gr, rfl, k0, k1, k2, fz, hgr⟩ := hc k x hx
      obtain ⟨gl, rfl, hcl, hgl⟩ := HSEE.out k hlt
      have hlook : look x.1 S.files = some x.2.file := by rw [hRr.look, look_of_mem hRr.riseR.apart hmem]; rfl
      have hnl : x.1.length ≤ 100 := HSH.out (x.1, x.2.file) (look_mem hlook)
      obtain ⟨ab, cb, hev, hrowb, hlb, hcb, hsh⟩ := rent_shape (hRr.ents x hmem) (hRr.ent hmem).2
      rw [hev] at k1
      have hle : x.2.bytes.length ≤ 1000000000 := by
        have := total_le_of (f := fun e : REnt => e.bytes.length) (n := x.1) (a := x.2) hmem
        rw [rused_eq hRr] at this
        exact Nat.le_trans this HU.out
      obtain ⟨s, hs⟩ : ∃ s : ByteArray, s = ⟨⟨x.1⟩⟩ := ⟨_, rfl⟩
      have hsl : s.data.toList = x.1 := by rw [hs]
      have hss : s.size ≤ 100 := by rw [hs]; exact hnl
      have hes' : encStr x.1 = .string s := by rw [hs]; first | done | rfl
      rw [hes'] at k0
      have m0 : wr.cell? ⟨gl, k, none⟩ = some (.string s) := by
        rw [hbr.cell (p := ⟨gl, k, none⟩) (by show gl < _; omega), HB2.out.cell (p := ⟨gl, k, none⟩) hgl, hcl, List.getElem?_map, List.getElem?_map, hes]
        simp only [Option.map_some]
        rw [hes']
      have d1 : wr.cell? ⟨rp, 1, none⟩ = some (.slice (some ⟨gr, 0, none⟩) rs.length crr) := hRr.blk.cell 1
      have d6 : wr.cell? ⟨rp, 6, none⟩ = some (.bool S.down) := hRr.blk.cell 6
      have q0 := fun n => show (wr.drewN n).cell? ⟨gr, k * 3, none⟩ = some (.string s) from k0
      have q1 := fun n => show (wr.drewN n).cell? ⟨gr, k * 3 + 1, none⟩ = some (.slice ab x.2.bytes.length cb) from k1
      have qm := fun n => show (wr.drewN n).cell? ⟨gl, k, none⟩ = some (.string s) from m0
      have qd := fun n => show (wr.drewN n).cell? ⟨rp, 1, none⟩ = some (.slice (some ⟨gr, 0, none⟩) rs.length crr) from d1
      have i0 : (0 : Int) ≤ (k : Int) := Int.natCast_nonneg _
      have i1 : (k : Int) < (rs.length : Int) := by omega
      have HAr := Lib.hid hAr
      have HRr := Lib.hid hRr
      have HLK := Lib.hid hlook
      have HSL := Lib.hid hsl
      have HRW := Lib.hid hrowb
      have HBR := Lib.hid hbr
      have HFI := Lib.hid hfile
      have HCB := Lib.hid hcb
      have HLB := Lib.hid hlb
      have HX := Lib.hid hx
      have hszr := hbr.size
      clear hAr hRr hlook hsl hrowb hbr hfile hcb hlb hx hes hc hlr hcr hev hsh hs hes' hcl fz k2 hmem
      clear k0 k1 m0 d1
      go_wp2_with fail
      go_quiet (fail)
      have hbW : Below w2.heap.size w2 (wr.drewN nq) := below_drewN HBR.out nq
      have hAW : At (wr.drewN nq) p S mb cr es D := HAr.out.but (T := fun _ => False) ((But.refl _ wr).drewN nq) (fun _ _ h => h)
      have hRW := HRr.out.drewN nq
      have hrowW : Row (wr.drewN nq) ab x.2.bytes.length x.2.bytes := HRW.out.but (S := fun _ => False) ((But.refl _ wr).drewN nq) (fun _ _ _ h => h)
      have q1 := q1 nq
      have qm := qm nq
      have qd := qd nq
      have d6 : (wr.drewN nq).cell? ⟨rp, 6, none⟩ = some (.bool S.down) := d6
      have hgW : gr < (wr.drewN nq).heap.size := hgr
      generalize wr.drewN nq = W at hgW hbW hAW hRW hrowW q1 qm qd d6 ⊢
      have hlen := len_any hAW.has s (by unfold maxLen; omega)
      rw [HSL.out] at hlen
      have HAW := Lib.hid hAW
      have HRW2 := Lib.hid hRW
      have HROW := Lib.hid hrowW
      have HBW := Lib.hid hbW
      clear hAW hRW hrowW hbW q0 HAr HRr HRW
      by_cases hd0 : S.down = false
      · have hd := hd0
        have e1 : lenOf S x.1 = ((x.2.bytes.length : Int), 0) := by unfold lenOf; rw [hd, HLK.out]; rfl
        rw [e1, show errV 0 = Value.nilIface from rfl] at hlen
        have HLEN := Lib.hid hlen
        have hrd := read_any HAW.out.has HU.out s (by unfold maxLen; omega) 0 (x.2.bytes.length : Int) (by omega)
        have e2 : readOf S x.1 0 (x.2.bytes.length : Int) = (0, x.2.bytes) := by
          unfold readOf
          rw [hd, HLK.out]
          simp [REnt.file]
        rw [HSL.out, e2, show errV 0 = Value.nilIface from rfl] at hrd
        have HRD := Lib.hid hrd
        rw [hd] at d6
        clear hlen e1 hrd e2 hd hd0
        go_wp2_with fail
        refine HLEN.out.mono ?_
        rintro y w' ⟨rfl, rfl⟩
        go_wp2_with fail
        refine HRD.out.mono ?_
        rintro y w5 ⟨a5, c5, rfl, hr5, hb5⟩
        have hRb := HRW2.out.below hb5
        have r1 := fun n => show (w5.drewN n).cell? ⟨gr, k * 3 + 1, none⟩ = some (.slice ab x.2.bytes.length cb) from (hb5.cell (p := ⟨gr, k * 3 + 1, none⟩) (by show gr < _; exact hgW)).trans q1
        have r2 := fun n => show (w5.drewN n).cell? ⟨rp, 1, none⟩ = some (.slice (some ⟨gr, 0, none⟩) rs.length crr) from hRb.blk.cell 1
        have hs1 := fun n dst hd => run_string_row (P := Try.prog) (hr5.but (S := fun _ => False) ((But.refl _ w5).drewN n) (fun _ _ _ h => h)) 30 5 dst Try.underlying30 Try.underlying5 hd c5
        have hs2 := fun n dst hd => run_string_row (P := Try.prog) ((HROW.out.below hb5).but (S := fun _ => False) ((But.refl _ w5).drewN n) (fun _ _ _ h => h)) 30 5 dst Try.underlying30 Try.underlying5 hd cb
        have HB5 := Lib.hid (HBW.out.trans (hb5.mono HBW.out.size))
        clear hr5 hb5 hRb q1 qm qd d6
        go_wp2_with fail
        go_quiet (fail)
        go_wp2_with fail
        go_roundw
        case rel => exact ⟨k + 1, by omega, by go_num, below_drewN HB5.out _⟩
        case measure => simp [intOf]; omega
      · have hd : S.down = true := by simpa using hd0
        have e1 : lenOf S x.1 = (0, 15) := by unfold lenOf; rw [hd]; rfl
        rw [e1, show errV 15 = Value.iface 52 (.int .i64 15) from rfl] at hlen
        have HLEN := Lib.hid hlen
        have ke := fun w => show (binOp .neq 35 (.iface 52 (.int .i64 15)) (.iface 52 (.int .i64 15))).run Try.prog w = .ok (.bool false) w from code_neq 15 15 w
        rw [hd] at d6
        clear hlen e1 hd hd0
        go_wp2_with fail
        refine HLEN.out.mono ?_
        rintro y w' ⟨rfl, rfl⟩
        go_wp2_with fail
        go_roundw
        case rel => exact ⟨k + 1, by omega, by go_num, HBW.out⟩
        case measure => simp [intOf]; omega
    · have hkl : k = rs.length := by omega
      subst hkl
      go_wp2
      go_ret
      have h1 := HB1.out.trans (HB2.out.mono HB1.out.size)
      exact ⟨rfl, h1.trans (hbr.mono h1.size)⟩
end
end Go.Proofs.Ytiaaadeenbjciaa.Disk
