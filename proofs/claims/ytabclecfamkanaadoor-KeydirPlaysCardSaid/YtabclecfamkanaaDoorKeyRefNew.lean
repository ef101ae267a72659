/- The document's new table; an entry laid. -/
import Derived.Test.YtabclecfamkanaaDoorKeyRef
namespace Go.Proofs.YtabclecfamkanaaDoor.Key
open Go.Proofs.YtabclecfamkanaaDoor.Mem Go.Proofs.YtabclecfamkanaaDoor.Fnv
open Go.ChangeShapes Go.WideShapes Go.ChangeAt Go.RowKit
set_option linter.unusedVariables false
set_option linter.unusedSimpArgs false
theorem RLo.fresh {w : World} {rp gl gu n : Nat} (h1 : Blk w rp 46 #[.slice (some ⟨gl, 0, none⟩) n n, .slice (some ⟨gu, 0, none⟩) n n]) (h2 : Blk w gl 38 (ecl (List.replicate n zero)).toArray) (h3 : Blk w gu 4 (List.replicate n (.bool false)).toArray) (h8 : 8 ≤ n) (hn : n ≤ 4000) (hp : Pow (n : Int)) :
    RLo w rp gl gu (List.replicate n none) (List.replicate n zero) n where
  blk := h1
  lrow := h2
  urow := by
    rw [show (List.replicate n (none : Option Ent)).map ubit = List.replicate n (.bool false) from by rw [List.map_replicate]; rfl]
    exact h3
  len := by simp
  xlen := by simp
  same := fun j e h => by rw [look_new] at h; cases h
  few := ⟨h8, hn⟩
  pow := hp
  small := fun e he => by
    have := (List.mem_replicate.1 he).2
    cases this
theorem rentry_info : (Tryd.prog.info? 38).map (fun i => (i.zero, i.size, i.bytes)) = some (some (.agg (ecells zero).toArray), 7, 64) := by kernel_rfl
theorem rentry_size : (Tryd.prog.info? 38).map (·.size) = some 7 := by kernel_rfl
theorem bool_info : (Tryd.prog.info? 4).map (fun i => (i.zero, i.size, i.bytes)) = some (some (.bool false), 1, 1) := by kernel_rfl
theorem made_ents (w : World) (n : Nat) (hn : n ≤ 100000) : (Instr.makeSlice 43 (.int .i64 (n : Int)) (.int .i64 (n : Int))).run Tryd.prog w = .ok (.slice (some ⟨w.heap.size, 0, none⟩) n n) (w.alloc (.cells (ecl (List.replicate n zero)).toArray 38)) :=
  run_make_flat w _ _ _ 7 64 Tryd.underlying43 rentry_info ecells zero (by omega) ecells_length rfl n (by omega) (by omega)
theorem flat_bools (n : Nat) : (List.replicate n (0 : Nat)).flatMap (fun _ => [Value.bool false]) = List.replicate n (.bool false) := by
  induction n with
  | zero => rfl
  | succ n ih => rw [List.replicate_succ, List.flatMap_cons, ih]; rfl
theorem made_bools (w : World) (n : Nat) (hn : n ≤ 100000) : (Instr.makeSlice 44 (.int .i64 (n : Int)) (.int .i64 (n : Int))).run Tryd.prog w = .ok (.slice (some ⟨w.heap.size, 0, none⟩) n n) (w.alloc (.cells (List.replicate n (.bool false)).toArray 4)) := by
  have := run_make_flat w 44 4 _ 1 1 Tryd.underlying44 bool_info (fun _ : Nat => [.bool false]) 0 (by omega) (fun _ => rfl) rfl n (by omega) (by omega)
  rw [flat_bools] at this
  exact this
section
variable {w w' : World} {rp gl gu n : Nat} {T : Tab} {X : List Ent}
set_option maxRecDepth 100000 in
set_option maxHeartbeats 1000000 in
theorem rnew_any (w : World) :
    Calls Tryd.prog 7 #[] w fun e w' => ∃ rp, e = .returned (.pointer (some ⟨rp, 0, none⟩)) ∧ ∃ gl gu, RLo w' rp gl gu (List.replicate 8 none) (List.replicate 8 zero) 8 ∧ w.heap.size ≤ rp ∧ w.heap.size ≤ gl ∧ w.heap.size ≤ gu ∧ But (fun _ => False) w w' := by
  have HPW := Lib.hid (show Pow ((8 : Nat) : Int) from good_new.pow30 (by omega))
  have m1 := fun w => made_ents w 8 (by omega)
  have m2 := fun w => made_bools w 8 (by omega)
  have m1' : ∀ w, (Instr.makeSlice 43 (.int .i64 8) (.int .i64 8)).run Tryd.prog w = .ok (.slice (some ⟨w.heap.size, 0, none⟩) 8 8) (w.alloc (.cells (ecl (List.replicate 8 zero)).toArray 38)) := m1
  have m2' : ∀ w, (Instr.makeSlice 44 (.int .i64 8) (.int .i64 8)).run Tryd.prog w = .ok (.slice (some ⟨w.heap.size, 0, none⟩) 8 8) (w.alloc (.cells (List.replicate 8 (.bool false)).toArray 4)) := m2
  clear m1 m2
  go_enter Tryd.func7, Tryd.ntmps7
  go_wp2_with fail
  refine Late.region_goes (fun V => But (fun _ => False) w V) (fun _ => false) (by kernel_rfl) ?_ (fun hH => ?_)
  · exact (But.refl _ w).drew
  refine Late.Goes.two (i := 0) (j := 1) (by kernel_rfl) (by simp only [List.getElem?_toArray, List.getElem?_cons_succ, List.getElem?_cons_zero]; rfl) (by simp only [List.getElem?_toArray, List.getElem?_cons_succ, List.getElem?_cons_zero]; rfl) (fun K hK => ?_) (fun K hK => ?_) <;> clear hH
  · go_simp
    have H1 := Lib.hid (show Blk (w.drew.alloc (.cells (ecl (List.replicate (8) zero)).toArray 38)) w.heap.size 38 (ecl (List.replicate (8) zero)).toArray ∧ But (fun _ => False) w.drew (w.drew.alloc (.cells (ecl (List.replicate (8) zero)).toArray 38)) from ⟨Blk.new _ _ _, (But.refl _ _).alloc _⟩)
    change K _ (w.drew.alloc (.cells (ecl (List.replicate (8) zero)).toArray 38))
    obtain ⟨gl, hgl⟩ : ∃ g, g = w.heap.size := ⟨_, rfl⟩
    have Hgl := Lib.hid (show gl = w.heap.size from hgl)
    rw [← hgl] at H1 ⊢
    clear hgl
    generalize w.drew.alloc (.cells (ecl (List.replicate (8) zero)).toArray 38) = w1 at H1 ⊢
    refine hK.out _ _ ?_ (fun hH => ?_)
    · exact fun _ => ((But.refl (fun _ => False) w).drew).trans H1.out.2 (fun j hj h => h)
    clear hK K
    have hH := hH rfl
    try simp only [Act.put, List.setIfInBounds_toArray, List.set_cons_zero, List.set_cons_succ]
    refine Late.Goes.one (i := 1) (by kernel_rfl) (by simp only [List.getElem?_toArray, List.getElem?_cons_succ, List.getElem?_cons_zero]; rfl) (fun K hK => ?_)
    clear hH
    go_simp
    have H2 := Lib.hid (show Blk (w1.alloc (.cells (List.replicate (8) (.bool false)).toArray 4)) w1.heap.size 4 (List.replicate (8) (.bool false)).toArray ∧ Blk (w1.alloc (.cells (List.replicate (8) (.bool false)).toArray 4)) gl 38 (ecl (List.replicate (8) zero)).toArray ∧ But (fun _ => False) w.drew (w1.alloc (.cells (List.replicate (8) (.bool false)).toArray 4)) from ⟨Blk.new _ _ _, H1.out.1.but ((But.refl (fun _ => False) w1).alloc _) (fun h => h), H1.out.2.alloc _⟩)
    change K _ (w1.alloc (.cells (List.replicate (8) (.bool false)).toArray 4))
    obtain ⟨gu, hgu⟩ : ∃ g, g = w1.heap.size := ⟨_, rfl⟩
    have Hgu := Lib.hid (show gu = w1.heap.size from hgu)
    rw [← hgu] at H2 ⊢
    clear hgu
    generalize w1.alloc (.cells (List.replicate (8) (.bool false)).toArray 4) = w2 at H2 ⊢
    refine hK.out _ _ ?_ (fun hH => ?_)
    · exact fun _ => ((But.refl (fun _ => False) w).drew).trans H2.out.2.2 (fun j hj h => h)
    clear hK K
    have hH := hH rfl
    try simp only [Act.put, List.setIfInBounds_toArray, List.set_cons_zero, List.set_cons_succ]
    refine Late.Goes.takeT (i := 2) (v := ?_) (by simp only [List.getElem?_toArray, List.getElem?_cons_succ, List.getElem?_cons_zero]; rfl) (by kernel_rfl) (by kernel_rfl) (by kernel_rfl) (by kernel_rfl) (by kernel_rfl) (by exact fun _ _ _ h => h) (Or.inl ⟨by rfl, ?_⟩) hH ?_
    rotate_left
    · (intro wy hSw; (try dsimp only at hSw); skip; go_simp; try (with_reducible rfl))
    try simp only [Act.put, List.setIfInBounds_toArray, List.set_cons_zero, List.set_cons_succ]
    refine Late.Goes.one (i := 3) (by kernel_rfl) (by simp only [List.getElem?_toArray, List.getElem?_cons_succ, List.getElem?_cons_zero]; rfl) (fun K hK => ?_)
    clear hH
    go_simp
    have H3 := Lib.hid (show Blk (w2.alloc (.cells #[.slice (some ⟨gl, 0, none⟩) (8) (8), .slice (some ⟨gu, 0, none⟩) (8) (8)] 46)) w2.heap.size 46 #[.slice (some ⟨gl, 0, none⟩) (8) (8), .slice (some ⟨gu, 0, none⟩) (8) (8)] ∧ But (fun _ => False) w2 (w2.alloc (.cells #[.slice (some ⟨gl, 0, none⟩) (8) (8), .slice (some ⟨gu, 0, none⟩) (8) (8)] 46)) from ⟨Blk.new _ _ _, (But.refl _ _).alloc _⟩)
    change K _ (w2.alloc (.cells #[.slice (some ⟨gl, 0, none⟩) (8) (8), .slice (some ⟨gu, 0, none⟩) (8) (8)] 46))
    obtain ⟨np, hnp⟩ : ∃ g, g = w2.heap.size := ⟨_, rfl⟩
    have Hnp := Lib.hid (show np = w2.heap.size from hnp)
    rw [← hnp] at H3 ⊢
    clear hnp
    generalize w2.alloc (.cells #[.slice (some ⟨gl, 0, none⟩) (8) (8), .slice (some ⟨gu, 0, none⟩) (8) (8)] 46) = w4 at H3 ⊢
    refine hK.out _ _ ?_ (fun hH => ?_)
    · exact fun _ => ((But.refl (fun _ => False) w).drew).trans (H2.out.2.2.trans H3.out.2 (fun j hj h => h)) (fun j hj h => h)
    clear hK K
    have hH := hH rfl
    try simp only [Act.put, List.setIfInBounds_toArray, List.set_cons_zero, List.set_cons_succ]
    refine Late.Goes.takeT (i := 4) (v := ?_) (by simp only [List.getElem?_toArray, List.getElem?_cons_succ, List.getElem?_cons_zero]; rfl) (by kernel_rfl) (by kernel_rfl) (by kernel_rfl) (by kernel_rfl) (by kernel_rfl) (by exact fun _ _ _ h => h) (Or.inl ⟨by rfl, ?_⟩) hH ?_
    rotate_left
    · (intro wy hSw; (try dsimp only at hSw); skip; go_simp; try (with_reducible rfl))
    try simp only [Act.put, List.setIfInBounds_toArray, List.set_cons_zero, List.set_cons_succ]
    refine Late.Goes.done (by kernel_rfl) ?_ _
    have HR := Lib.hid (show RLo w4 np gl gu (List.replicate (8) none) (List.replicate (8) zero) (8) from RLo.fresh H3.out.1 (H2.out.2.1.but H3.out.2 (fun h => h)) (H2.out.1.but H3.out.2 (fun h => h)) (by omega) (by omega) HPW.out)
    go_wp2_with fail
    go_ret
    exact ⟨np, rfl, gl, gu, HR.out, by have h9 : w.drew.heap.size = w.heap.size := rfl; have := H2.out.2.2.size; have := Hnp.out; have := H1.out.2.size; omega, by have h9 : w.drew.heap.size = w.heap.size := rfl; have := Hgl.out; have := H1.out.2.size; omega, by have h9 : w.drew.heap.size = w.heap.size := rfl; have := Hgu.out; have := H1.out.2.size; omega, (((But.refl (fun _ => False) w).drew).trans H2.out.2.2 (fun j hj h => h)).trans H3.out.2 (fun j hj h => h)⟩
  · go_simp
    have H1 := Lib.hid (show Blk (w.drew.alloc (.cells (List.replicate (8) (.bool false)).toArray 4)) w.heap.size 4 (List.replicate (8) (.bool false)).toArray ∧ But (fun _ => False) w.drew (w.drew.alloc (.cells (List.replicate (8) (.bool false)).toArray 4)) from ⟨Blk.new _ _ _, (But.refl _ _).alloc _⟩)
    change K _ (w.drew.alloc (.cells (List.replicate (8) (.bool false)).toArray 4))
    obtain ⟨gu, hgu⟩ : ∃ g, g = w.heap.size := ⟨_, rfl⟩
    have Hgu := Lib.hid (show gu = w.heap.size from hgu)
    rw [← hgu] at H1 ⊢
    clear hgu
    generalize w.drew.alloc (.cells (List.replicate (8) (.bool false)).toArray 4) = w1 at H1 ⊢
    refine hK.out _ _ ?_ (fun hH => ?_)
    · exact fun _ => ((But.refl (fun _ => False) w).drew).trans H1.out.2 (fun j hj h => h)
    clear hK K
    have hH := hH rfl
    try simp only [Act.put, List.setIfInBounds_toArray, List.set_cons_zero, List.set_cons_succ]
    refine Late.Goes.one (i := 0) (by kernel_rfl) (by simp only [List.getElem?_toArray, List.getElem?_cons_succ, List.getElem?_cons_zero]; rfl) (fun K hK => ?_)
    clear hH
    go_simp
    have H2 := Lib.hid (show Blk (w1.alloc (.cells (ecl (List.replicate (8) zero)).toArray 38)) w1.heap.size 38 (ecl (List.replicate (8) zero)).toArray ∧ Blk (w1.alloc (.cells (ecl (List.replicate (8) zero)).toArray 38)) gu 4 (List.replicate (8) (.bool false)).toArray ∧ But (fun _ => False) w.drew (w1.alloc (.cells (ecl (List.replicate (8) zero)).toArray 38)) from ⟨Blk.new _ _ _, H1.out.1.but ((But.refl (fun _ => False) w1).alloc _) (fun h => h), H1.out.2.alloc _⟩)
    change K _ (w1.alloc (.cells (ecl (List.replicate (8) zero)).toArray 38))
    obtain ⟨gl, hgl⟩ : ∃ g, g = w1.heap.size := ⟨_, rfl⟩
    have Hgl := Lib.hid (show gl = w1.heap.size from hgl)
    rw [← hgl] at H2 ⊢
    clear hgl
    generalize w1.alloc (.cells (ecl (List.replicate (8) zero)).toArray 38) = w2 at H2 ⊢
    refine hK.out _ _ ?_ (fun hH => ?_)
    · exact fun _ => ((But.refl (fun _ => False) w).drew).trans H2.out.2.2 (fun j hj h => h)
    clear hK K
    have hH := hH rfl
    try simp only [Act.put, List.setIfInBounds_toArray, List.set_cons_zero, List.set_cons_succ]
    refine Late.Goes.takeT (i := 2) (v := ?_) (by simp only [List.getElem?_toArray, List.getElem?_cons_succ, List.getElem?_cons_zero]; rfl) (by kernel_rfl) (by kernel_rfl) (by kernel_rfl) (by kernel_rfl) (by kernel_rfl) (by exact fun _ _ _ h => h) (Or.inl ⟨by rfl, ?_⟩) hH ?_
    rotate_left
    · (intro wy hSw; (try dsimp only at hSw); skip; go_simp; try (with_reducible rfl))
    try simp only [Act.put, List.setIfInBounds_toArray, List.set_cons_zero, List.set_cons_succ]
    refine Late.Goes.one (i := 3) (by kernel_rfl) (by simp only [List.getElem?_toArray, List.getElem?_cons_succ, List.getElem?_cons_zero]; rfl) (fun K hK => ?_)
    clear hH
    go_simp
    have H3 := Lib.hid (show Blk (w2.alloc (.cells #[.slice (some ⟨gl, 0, none⟩) (8) (8), .slice (some ⟨gu, 0, none⟩) (8) (8)] 46)) w2.heap.size 46 #[.slice (some ⟨gl, 0, none⟩) (8) (8), .slice (some ⟨gu, 0, none⟩) (8) (8)] ∧ But (fun _ => False) w2 (w2.alloc (.cells #[.slice (some ⟨gl, 0, none⟩) (8) (8), .slice (some ⟨gu, 0, none⟩) (8) (8)] 46)) from ⟨Blk.new _ _ _, (But.refl _ _).alloc _⟩)
    change K _ (w2.alloc (.cells #[.slice (some ⟨gl, 0, none⟩) (8) (8), .slice (some ⟨gu, 0, none⟩) (8) (8)] 46))
    obtain ⟨np, hnp⟩ : ∃ g, g = w2.heap.size := ⟨_, rfl⟩
    have Hnp := Lib.hid (show np = w2.heap.size from hnp)
    rw [← hnp] at H3 ⊢
    clear hnp
    generalize w2.alloc (.cells #[.slice (some ⟨gl, 0, none⟩) (8) (8), .slice (some ⟨gu, 0, none⟩) (8) (8)] 46) = w4 at H3 ⊢
    refine hK.out _ _ ?_ (fun hH => ?_)
    · exact fun _ => ((But.refl (fun _ => False) w).drew).trans (H2.out.2.2.trans H3.out.2 (fun j hj h => h)) (fun j hj h => h)
    clear hK K
    have hH := hH rfl
    try simp only [Act.put, List.setIfInBounds_toArray, List.set_cons_zero, List.set_cons_succ]
    refine Late.Goes.takeT (i := 4) (v := ?_) (by simp only [List.getElem?_toArray, List.getElem?_cons_succ, List.getElem?_cons_zero]; rfl) (by kernel_rfl) (by kernel_rfl) (by kernel_rfl) (by kernel_rfl) (by kernel_rfl) (by exact fun _ _ _ h => h) (Or.inl ⟨by rfl, ?_⟩) hH ?_
    rotate_left
    · (intro wy hSw; (try dsimp only at hSw); skip; go_simp; try (with_reducible rfl))
    try simp only [Act.put, List.setIfInBounds_toArray, List.set_cons_zero, List.set_cons_succ]
    refine Late.Goes.done (by kernel_rfl) ?_ _
    have HR := Lib.hid (show RLo w4 np gl gu (List.replicate (8) none) (List.replicate (8) zero) (8) from RLo.fresh H3.out.1 (H2.out.1.but H3.out.2 (fun h => h)) (H2.out.2.1.but H3.out.2 (fun h => h)) (by omega) (by omega) HPW.out)
    go_wp2_with fail
    go_ret
    exact ⟨np, rfl, gl, gu, HR.out, by have h9 : w.drew.heap.size = w.heap.size := rfl; have := H2.out.2.2.size; have := Hnp.out; have := H1.out.2.size; omega, by have h9 : w.drew.heap.size = w.heap.size := rfl; have := Hgl.out; have := H1.out.2.size; omega, by have h9 : w.drew.heap.size = w.heap.size := rfl; have := Hgu.out; have := H1.out.2.size; omega, (((But.refl (fun _ => False) w).drew).trans H2.out.2.2 (fun j hj h => h)).trans H3.out.2 (fun j hj h => h)⟩
end
end Go.Proofs.YtabclecfamkanaaDoor.Key
