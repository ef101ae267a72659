/- Contracts of the program's Get and Len. -/
import Derived.Test.YtgjofinbdigmcaaKeyB
namespace Go.Proofs.Ytgjofinbdigmcaa.Key
open Go.Proofs.Ytgjofinbdigmcaa.Mem Go.Proofs.Ytgjofinbdigmcaa.Fnv
open Go.ChangeShapes Go.WideShapes Go.ChangeAt Go.RowKit
set_option linter.unusedVariables false
set_option linter.unusedSimpArgs false
/- Results of a call: a struct that lies in a block, and a slot. -/
theorem results_row_tmp {P : Program} {fn : Func} {p q : Tmp} {ty : TypeId} (h : fn.results = #[.cell p ty, .tmp q]) (tmps : Array Value) (w : World) (g : Nat) (t : TypeId) (cs : Array Value) (fr : Nat × Nat) (d : TypeDesc)
    (hp : tmps.getD p undef = .pointer (some ⟨g, 0, none⟩)) (hg : w.heap[g]? = some (.cells cs t fr))
    (hu : P.underlying ty = some d) (hd : (match d with | .struct _ | .array _ _ => true | _ => false) = true) (hi : (P.info? ty).map (·.size) = some cs.size) :
    (results fn tmps).run P w = .ok (.tuple #[.agg cs, tmps.getD q undef]) w := by
  have hp' : tmps[p]?.getD undef = .pointer (some ⟨g, 0, none⟩) := by simpa using hp
  simp [results, h, hp', asAddr, run_loadVar_row w g t ty cs fr d hg hu hd hi]
section
variable {w : World} {p g i kn : Nat} {T : Tab}
set_option maxRecDepth 100000 in
set_option maxHeartbeats 1000000 in
theorem klen_any (h : KAt w p g T i (cnt T)) :
    Calls Try.prog 29 #[.pointer (some ⟨p, 0, none⟩)] w fun e w' => e = .returned (.int .i64 (cnt T : Int)) ∧ w = w' := by
  have c1 : w.cell? ⟨p, 1, none⟩ = some (.int .i64 (cnt T : Int)) := h.blk.cell 1
  generalize cnt T = m at *
  clear h
  go_enter Try.func29, Try.ntmps29
  go_wp2
  go_ret
  exact ⟨rfl, rfl⟩
set_option maxRecDepth 100000 in
set_option maxHeartbeats 1000000 in
theorem kget_any (h : KAt w p g T i kn) (s : ByteArray) (hs : s.size ≤ 200) :
    Calls Try.prog 28 #[.pointer (some ⟨p, 0, none⟩), .string s] w fun e w' => e = .returned (.tuple #[ev (ent (ask T s)), .bool (ask T s).isSome]) ∧ But (fun _ => False) w w' := by
  have HK := Lib.hid h
  have hfl := find_lt (show 0 < T.length by have := h.lt; omega) s
  obtain ⟨l1, l2⟩ := h.lt
  have HF := fun W (hW : But (fun _ => False) w W) => kfind_any (h.but hW (fun h => h) (fun h => h)) s hs
  have HL := fun W (hW : But (fun _ => False) w W) => row_range (h.but hW (fun h => h) (fun h => h)).row hfl
  have HC0 : ∀ W, But (fun _ => False) w W → W.cell? ⟨p, 0, none⟩ = some (.slice (some ⟨g, 0, none⟩) T.length T.length) := fun W hW => (h.but hW (fun h => h) (fun h => h)).blk.cell 0
  unfold ask
  obtain ⟨o, ho⟩ : ∃ o, o = look T (find T s) := ⟨_, rfl⟩
  rw [← ho] at HL ⊢
  clear ho
  obtain ⟨n, hn⟩ : ∃ n, n = T.length := ⟨_, rfl⟩
  rw [← hn] at l1 l2 hfl HC0
  clear hn
  obtain ⟨k, hk⟩ : ∃ k, k = find T s := ⟨_, rfl⟩
  rw [← hk] at HF HL hfl
  clear hk h
  replace HF := Lib.hid HF
  replace HL := Lib.hid HL
  replace HC0 := Lib.hid HC0
  have HE0 := Lib.hid (show Blk (w.alloc (.cells (ecells zero).toArray 39)) w.heap.size 39 (ecells zero).toArray from Blk.new _ _ _)
  have HB0 := Lib.hid ((But.refl (fun _ => False) w).alloc (.cells (ecells zero).toArray 39))
  go_enter Try.func28, Try.ntmps28
  go_wp2_with fail
  obtain ⟨b4, hb4⟩ : ∃ b, b = w.heap.size := ⟨_, rfl⟩
  change Code.wp _ _ _ _ (w.alloc (.cells (ecells zero).toArray 39))
  rw [← hb4] at HE0 ⊢
  generalize w.alloc (.cells (ecells zero).toArray 39) = W at HE0 HB0 ⊢
  have HBL := Lib.hid (show w.heap.size ≤ b4 by omega)
  clear hb4
  refine Late.region_goes (fun V => But (fun _ => False) w V ∧ Blk V b4 39 (ecells zero).toArray) (fun j => j == 10) (by kernel_rfl) ?_ (fun hH => ?_)
  · exact ⟨HB0.out.drew, HE0.out.but ((But.refl (fun _ => False) W).drew) (fun h => h)⟩
  refine Late.Goes.takeT (i := 0) (v := ?_) (by simp only [List.getElem?_toArray, List.getElem?_cons_succ, List.getElem?_cons_zero]; rfl) (by kernel_rfl) (by kernel_rfl) (by kernel_rfl) (by kernel_rfl) (by kernel_rfl) (by exact fun _ _ _ h => h) (Or.inl ⟨by rfl, ?_⟩) hH ?_
  rotate_left
  · (intro wy hSw; (try dsimp only at hSw); have k0 := HC0.out wy hSw.1; go_simp; try (with_reducible rfl))
  try simp only [Act.put, List.setIfInBounds_toArray, List.set_cons_zero, List.set_cons_succ]
  refine Late.Goes.takeT (i := 1) (v := ?_) (by simp only [List.getElem?_toArray, List.getElem?_cons_succ, List.getElem?_cons_zero]; rfl) (by kernel_rfl) (by kernel_rfl) (by kernel_rfl) (by kernel_rfl) (by kernel_rfl) (by exact fun _ _ _ h => h) (Or.inl ⟨by rfl, ?_⟩) hH ?_
  rotate_left
  · (intro wy hSw; (try dsimp only at hSw); have k0 := HC0.out wy hSw.1; go_simp; try (with_reducible rfl))
  try simp only [Act.put, List.setIfInBounds_toArray, List.set_cons_zero, List.set_cons_succ]
  refine Late.Goes.takeT (i := 2) (v := ?_) (by simp only [List.getElem?_toArray, List.getElem?_cons_succ, List.getElem?_cons_zero]; rfl) (by kernel_rfl) (by kernel_rfl) (by kernel_rfl) (by kernel_rfl) (by kernel_rfl) (by exact fun _ _ _ h => h) (Or.inl ⟨by rfl, ?_⟩) hH ?_
  rotate_left
  · (intro wy hSw; (try dsimp only at hSw); have k0 := HC0.out wy hSw.1; go_simp; try (with_reducible rfl))
  try simp only [Act.put, List.setIfInBounds_toArray, List.set_cons_zero, List.set_cons_succ]
  refine Late.Goes.takeT (i := 3) (v := ?_) (by simp only [List.getElem?_toArray, List.getElem?_cons_succ, List.getElem?_cons_zero]; rfl) (by kernel_rfl) (by kernel_rfl) (by kernel_rfl) (by kernel_rfl) (by kernel_rfl) (by exact fun _ _ _ h => h) (Or.inl ⟨by rfl, ?_⟩) hH ?_
  rotate_left
  · (intro wy hSw; (try dsimp only at hSw); have k0 := HC0.out wy hSw.1; go_simp; try (with_reducible rfl))
  try simp only [Act.put, List.setIfInBounds_toArray, List.set_cons_zero, List.set_cons_succ]
  refine Late.Goes.takeT (i := 4) (v := ?_) (by simp only [List.getElem?_toArray, List.getElem?_cons_succ, List.getElem?_cons_zero]; rfl) (by kernel_rfl) (by kernel_rfl) (by kernel_rfl) (by kernel_rfl) (by kernel_rfl) (by exact fun _ _ _ h => h) (Or.inl ⟨by rfl, ?_⟩) hH ?_
  rotate_left
  · (intro wy hSw; (try dsimp only at hSw); have k0 := HC0.out wy hSw.1; go_simp; try (with_reducible rfl))
  try simp only [Act.put, List.setIfInBounds_toArray, List.set_cons_zero, List.set_cons_succ]
  refine Late.Goes.takeT (i := 5) (v := ?_) (by simp only [List.getElem?_toArray, List.getElem?_cons_succ, List.getElem?_cons_zero]; rfl) (by kernel_rfl) (by kernel_rfl) (by kernel_rfl) (by kernel_rfl) (by kernel_rfl) (by exact fun _ _ _ h => h) (Or.inl ⟨by rfl, ?_⟩) hH ?_
  rotate_left
  · (intro wy hSw; (try dsimp only at hSw); have k0 := HC0.out wy hSw.1; go_simp; try (with_reducible rfl))
  try simp only [Act.put, List.setIfInBounds_toArray, List.set_cons_zero, List.set_cons_succ]
  have HS1 := Lib.hid hH
  refine Late.Goes.two (i := 6) (j := 9) (by kernel_rfl) (by simp only [List.getElem?_toArray, List.getElem?_cons_succ, List.getElem?_cons_zero]; rfl) (by simp only [List.getElem?_toArray, List.getElem?_cons_succ, List.getElem?_cons_zero]; rfl) (fun K hK => ?_) (fun K hK => ?_) <;> clear hH
  · go_simp
    go_at_call 45
    refine (HF.out _ HS1.out.1).mono ?_
    rintro e w' ⟨rfl, rfl⟩
    refine hK.out _ _ ?_ (fun hH => ?_)
    · exact fun _ => HS1.out
    clear hK K
    have hH := hH rfl
    try simp only [Act.put, List.setIfInBounds_toArray, List.set_cons_zero, List.set_cons_succ]
    refine Late.Goes.takeT (i := 7) (v := ?_) (by simp only [List.getElem?_toArray, List.getElem?_cons_succ, List.getElem?_cons_zero]; rfl) (by kernel_rfl) (by kernel_rfl) (by kernel_rfl) (by kernel_rfl) (by kernel_rfl) (by exact fun _ _ _ h => h) (Or.inl ⟨by rfl, ?_⟩) hH ?_
    rotate_left
    · (intro wy hSw; (try dsimp only at hSw); have k0 := HC0.out wy hSw.1; go_simp; try (with_reducible rfl))
    try simp only [Act.put, List.setIfInBounds_toArray, List.set_cons_zero, List.set_cons_succ]
    refine Late.Goes.takeT (i := 8) (v := _) (by simp only [List.getElem?_toArray, List.getElem?_cons_succ, List.getElem?_cons_zero]; rfl) (by kernel_rfl) (by kernel_rfl) (by kernel_rfl) (by kernel_rfl) (by kernel_rfl) (by exact fun _ _ _ h => h) (yields_place (by rfl) _ rfl g (k * 8) rfl o (fun V hV => HL.out V hV.1)) hH ?_
    try simp only [Act.put, List.setIfInBounds_toArray, List.set_cons_zero, List.set_cons_succ]
    refine Late.Goes.one (i := 9) (by kernel_rfl) (by simp only [List.getElem?_toArray, List.getElem?_cons_succ, List.getElem?_cons_zero]; rfl) (fun K hK => ?_)
    clear hH
    go_simp
    have HS2 := Lib.hid (show But (fun _ => False) w (W.drew.alloc (.cells (pcells none).toArray 96)) ∧ Blk (W.drew.alloc (.cells (pcells none).toArray 96)) b4 39 (ecells zero).toArray ∧ Blk (W.drew.alloc (.cells (pcells none).toArray 96)) W.heap.size 96 (pcells none).toArray from ⟨HS1.out.1.alloc _, HS1.out.2.but ((But.refl (fun _ => False) _).alloc _) (fun h => h), Blk.new _ _ _⟩)
    change K (_ : Act) (W.drew.alloc (.cells (pcells none).toArray 96))
    generalize W.drew.alloc (.cells (pcells none).toArray 96) = W2 at HS2 ⊢
    refine hK.out _ _ ?_ (fun hH => ?_)
    · exact fun _ => ⟨HS2.out.1, HS2.out.2.1⟩
    clear hK K
    have hH := hH rfl
    try simp only [Act.put, List.setIfInBounds_toArray, List.set_cons_zero, List.set_cons_succ]
    refine Late.Goes.one (i := 10) (by kernel_rfl) (by simp only [List.getElem?_toArray, List.getElem?_cons_succ, List.getElem?_cons_zero]; rfl) (fun K hK => ?_)
    clear hH
    refine wp_store_blk (by rfl) 96 _ _ rfl W.heap.size 0 (pcells o) rfl rfl (blk_there0 HS2.out.2.2 (by rw [pcells_length, pcells_length])) (by rw [pcells_length]; exact place_size) (pcells_one o) ?_
    have HS3 := Lib.hid (And.intro (HS2.out.1.trans (but_setCells W.heap.size (pcells o) 0 W2) (fun k hk e => by have := HB0.out.size; omega)) (And.intro (HS2.out.2.1.but (but_setCells W.heap.size (pcells o) 0 W2) (fun e => by have := HE0.out.lt; omega)) (blk_set0 (vs := pcells o) HS2.out.2.2 (by rw [pcells_length, pcells_length]))))
    generalize W2.setCells W.heap.size 0 (pcells o) = W3 at HS3 ⊢
    refine hK.out _ _ ?_ (fun _ => ?_)
    · exact fun h => by cases h
    clear hK K
    try simp only [Act.put, List.setIfInBounds_toArray, List.set_cons_zero, List.set_cons_succ]
    refine Late.Goes.done (by kernel_rfl) ?_ _
    go_wp2_with fail
    have HL0 := Lib.hid (fun V (hV : Blk V W.heap.size 96 (pcells o).toArray) => show V.cell? ⟨W.heap.size, 0, none⟩ = some (.bool o.isSome) by rw [hV.cell 0, pcells_eq]; rfl)
    refine Late.region_goes (fun V => Blk V W.heap.size 96 (pcells o).toArray) (fun _ => false) (by kernel_rfl) ?_ (fun hH => ?_)
    · exact HS3.out.2.2.but ((But.refl (fun _ => False) W3).drew) (fun h => h)
    refine Late.Goes.takeT (i := 0) (v := ?_) (by simp only [List.getElem?_toArray, List.getElem?_cons_succ, List.getElem?_cons_zero]; rfl) (by kernel_rfl) (by kernel_rfl) (by kernel_rfl) (by kernel_rfl) (by kernel_rfl) (by exact fun _ _ _ h => h) (Or.inl ⟨by rfl, ?_⟩) hH ?_
    rotate_left
    · (intro wy hSw; (try dsimp only at hSw); have k0 := HL0.out wy hSw; go_simp; try (with_reducible rfl))
    try simp only [Act.put, List.setIfInBounds_toArray, List.set_cons_zero, List.set_cons_succ]
    refine Late.Goes.takeT (i := 1) (v := _) (by simp only [List.getElem?_toArray, List.getElem?_cons_succ, List.getElem?_cons_zero]; rfl) (by kernel_rfl) (by kernel_rfl) (by kernel_rfl) (by kernel_rfl) (by kernel_rfl) (by exact fun _ _ _ h => h) (yields_entry (by rfl) _ rfl W.heap.size 1 rfl (ent o) (fun V hV => box_entry hV)) hH ?_
    try simp only [Act.put, List.setIfInBounds_toArray, List.set_cons_zero, List.set_cons_succ]
    refine Late.Goes.takeT (i := 2) (v := ?_) (by simp only [List.getElem?_toArray, List.getElem?_cons_succ, List.getElem?_cons_zero]; rfl) (by kernel_rfl) (by kernel_rfl) (by kernel_rfl) (by kernel_rfl) (by kernel_rfl) (by exact fun _ _ _ h => h) (Or.inl ⟨by rfl, ?_⟩) hH ?_
    rotate_left
    · (intro wy hSw; (try dsimp only at hSw); have k0 := HL0.out wy hSw; go_simp; try (with_reducible rfl))
    try simp only [Act.put, List.setIfInBounds_toArray, List.set_cons_zero, List.set_cons_succ]
    refine Late.Goes.takeT (i := 3) (v := ?_) (by simp only [List.getElem?_toArray, List.getElem?_cons_succ, List.getElem?_cons_zero]; rfl) (by kernel_rfl) (by kernel_rfl) (by kernel_rfl) (by kernel_rfl) (by kernel_rfl) (by exact fun _ _ _ h => h) (Or.inl ⟨by rfl, ?_⟩) hH ?_
    rotate_left
    · (intro wy hSw; (try dsimp only at hSw); have k0 := HL0.out wy hSw; go_simp; try (with_reducible rfl))
    try simp only [Act.put, List.setIfInBounds_toArray, List.set_cons_zero, List.set_cons_succ]
    refine Late.Goes.one (i := 4) (by kernel_rfl) (by simp only [List.getElem?_toArray, List.getElem?_cons_succ, List.getElem?_cons_zero]; rfl) (fun K hK => ?_)
    clear hH
    refine wp_store_blk (by rfl) 39 _ _ rfl b4 0 (ecells (ent o)) rfl rfl (blk_there0 (HS3.out.2.1.but ((But.refl (fun _ => False) W3).drew) (fun h => h)) (by rw [ecells_length, ecells_length])) (by rw [ecells_length]; exact entry_size) (ecells_one _) ?_
    have HS4 := Lib.hid (And.intro (HS3.out.1.drew.trans (but_setCells b4 (ecells (ent o)) 0 W3.drew) (fun k hk e => by have := HBL.out; omega)) (And.intro (blk_set0 (vs := ecells (ent o)) (HS3.out.2.1.but ((But.refl (fun _ => False) W3).drew) (fun h => h)) (by rw [ecells_length, ecells_length])) ((HS3.out.2.2.but ((But.refl (fun _ => False) W3).drew) (fun h => h)).but (but_setCells b4 (ecells (ent o)) 0 W3.drew) (fun e => by have := HE0.out.lt; omega))))
    generalize W3.drew.setCells b4 0 (ecells (ent o)) = W4 at HS4 ⊢
    refine hK.out _ _ ?_ (fun hH => ?_)
    · exact fun _ => HS4.out.2.2
    clear hK K
    have hH := hH rfl
    try simp only [Act.put, List.setIfInBounds_toArray, List.set_cons_zero, List.set_cons_succ]
    refine Late.Goes.takeT (i := 5) (v := ?_) (by simp only [List.getElem?_toArray, List.getElem?_cons_succ, List.getElem?_cons_zero]; rfl) (by kernel_rfl) (by kernel_rfl) (by kernel_rfl) (by kernel_rfl) (by kernel_rfl) (by exact fun _ _ _ h => h) (Or.inl ⟨by rfl, ?_⟩) hH ?_
    rotate_left
    · (intro wy hSw; (try dsimp only at hSw); have k0 := HL0.out wy hSw; go_simp; try (with_reducible rfl))
    try simp only [Act.put, List.setIfInBounds_toArray, List.set_cons_zero, List.set_cons_succ]
    refine Late.Goes.done (by kernel_rfl) ?_ _
    go_wp2_with fail
    refine bodyPost_ret (results_row_tmp rfl _ _ b4 39 (ecells (ent o)).toArray (0, 0) _ rfl HS4.out.2.1 Try.underlying39 rfl entry_size) rfl ?_
    exact ⟨rfl, HS4.out.1⟩
  · go_simp
    have HS2 := Lib.hid (show But (fun _ => False) w (W.drew.alloc (.cells (pcells none).toArray 96)) ∧ Blk (W.drew.alloc (.cells (pcells none).toArray 96)) b4 39 (ecells zero).toArray ∧ Blk (W.drew.alloc (.cells (pcells none).toArray 96)) W.heap.size 96 (pcells none).toArray from ⟨HS1.out.1.alloc _, HS1.out.2.but ((But.refl (fun _ => False) _).alloc _) (fun h => h), Blk.new _ _ _⟩)
    change K (_ : Act) (W.drew.alloc (.cells (pcells none).toArray 96))
    generalize W.drew.alloc (.cells (pcells none).toArray 96) = W2 at HS2 ⊢
    refine hK.out _ _ ?_ (fun hH => ?_)
    · exact fun _ => ⟨HS2.out.1, HS2.out.2.1⟩
    clear hK K
    have hH := hH rfl
    try simp only [Act.put, List.setIfInBounds_toArray, List.set_cons_zero, List.set_cons_succ]
    refine Late.Goes.one (i := 6) (by kernel_rfl) (by simp only [List.getElem?_toArray, List.getElem?_cons_succ, List.getElem?_cons_zero]; rfl) (fun K hK => ?_)
    clear hH
    go_simp
    go_at_call 45
    refine (HF.out _ HS2.out.1).mono ?_
    rintro e w' ⟨rfl, rfl⟩
    refine hK.out _ _ ?_ (fun hH => ?_)
    · exact fun _ => ⟨HS2.out.1, HS2.out.2.1⟩
    clear hK K
    have hH := hH rfl
    try simp only [Act.put, List.setIfInBounds_toArray, List.set_cons_zero, List.set_cons_succ]
    refine Late.Goes.takeT (i := 7) (v := ?_) (by simp only [List.getElem?_toArray, List.getElem?_cons_succ, List.getElem?_cons_zero]; rfl) (by kernel_rfl) (by kernel_rfl) (by kernel_rfl) (by kernel_rfl) (by kernel_rfl) (by exact fun _ _ _ h => h) (Or.inl ⟨by rfl, ?_⟩) hH ?_
    rotate_left
    · (intro wy hSw; (try dsimp only at hSw); have k0 := HC0.out wy hSw.1; go_simp; try (with_reducible rfl))
    try simp only [Act.put, List.setIfInBounds_toArray, List.set_cons_zero, List.set_cons_succ]
    refine Late.Goes.takeT (i := 8) (v := _) (by simp only [List.getElem?_toArray, List.getElem?_cons_succ, List.getElem?_cons_zero]; rfl) (by kernel_rfl) (by kernel_rfl) (by kernel_rfl) (by kernel_rfl) (by kernel_rfl) (by exact fun _ _ _ h => h) (yields_place (by rfl) _ rfl g (k * 8) rfl o (fun V hV => HL.out V hV.1)) hH ?_
    try simp only [Act.put, List.setIfInBounds_toArray, List.set_cons_zero, List.set_cons_succ]
    refine Late.Goes.one (i := 10) (by kernel_rfl) (by simp only [List.getElem?_toArray, List.getElem?_cons_succ, List.getElem?_cons_zero]; rfl) (fun K hK => ?_)
    clear hH
    refine wp_store_blk (by rfl) 96 _ _ rfl W.heap.size 0 (pcells o) rfl rfl (blk_there0 HS2.out.2.2 (by rw [pcells_length, pcells_length])) (by rw [pcells_length]; exact place_size) (pcells_one o) ?_
    have HS3 := Lib.hid (And.intro (HS2.out.1.trans (but_setCells W.heap.size (pcells o) 0 W2) (fun k hk e => by have := HB0.out.size; omega)) (And.intro (HS2.out.2.1.but (but_setCells W.heap.size (pcells o) 0 W2) (fun e => by have := HE0.out.lt; omega)) (blk_set0 (vs := pcells o) HS2.out.2.2 (by rw [pcells_length, pcells_length]))))
    generalize W2.setCells W.heap.size 0 (pcells o) = W3 at HS3 ⊢
    refine hK.out _ _ ?_ (fun _ => ?_)
    · exact fun h => by cases h
    clear hK K
    try simp only [Act.put, List.setIfInBounds_toArray, List.set_cons_zero, List.set_cons_succ]
    refine Late.Goes.done (by kernel_rfl) ?_ _
    go_wp2_with fail
    have HL0 := Lib.hid (fun V (hV : Blk V W.heap.size 96 (pcells o).toArray) => show V.cell? ⟨W.heap.size, 0, none⟩ = some (.bool o.isSome) by rw [hV.cell 0, pcells_eq]; rfl)
    refine Late.region_goes (fun V => Blk V W.heap.size 96 (pcells o).toArray) (fun _ => false) (by kernel_rfl) ?_ (fun hH => ?_)
    · exact HS3.out.2.2.but ((But.refl (fun _ => False) W3).drew) (fun h => h)
    refine Late.Goes.takeT (i := 0) (v := ?_) (by simp only [List.getElem?_toArray, List.getElem?_cons_succ, List.getElem?_cons_zero]; rfl) (by kernel_rfl) (by kernel_rfl) (by kernel_rfl) (by kernel_rfl) (by kernel_rfl) (by exact fun _ _ _ h => h) (Or.inl ⟨by rfl, ?_⟩) hH ?_
    rotate_left
    · (intro wy hSw; (try dsimp only at hSw); have k0 := HL0.out wy hSw; go_simp; try (with_reducible rfl))
    try simp only [Act.put, List.setIfInBounds_toArray, List.set_cons_zero, List.set_cons_succ]
    refine Late.Goes.takeT (i := 1) (v := _) (by simp only [List.getElem?_toArray, List.getElem?_cons_succ, List.getElem?_cons_zero]; rfl) (by kernel_rfl) (by kernel_rfl) (by kernel_rfl) (by kernel_rfl) (by kernel_rfl) (by exact fun _ _ _ h => h) (yields_entry (by rfl) _ rfl W.heap.size 1 rfl (ent o) (fun V hV => box_entry hV)) hH ?_
    try simp only [Act.put, List.setIfInBounds_toArray, List.set_cons_zero, List.set_cons_succ]
    refine Late.Goes.takeT (i := 2) (v := ?_) (by simp only [List.getElem?_toArray, List.getElem?_cons_succ, List.getElem?_cons_zero]; rfl) (by kernel_rfl) (by kernel_rfl) (by kernel_rfl) (by kernel_rfl) (by kernel_rfl) (by exact fun _ _ _ h => h) (Or.inl ⟨by rfl, ?_⟩) hH ?_
    rotate_left
    · (intro wy hSw; (try dsimp only at hSw); have k0 := HL0.out wy hSw; go_simp; try (with_reducible rfl))
    try simp only [Act.put, List.setIfInBounds_toArray, List.set_cons_zero, List.set_cons_succ]
    refine Late.Goes.takeT (i := 3) (v := ?_) (by simp only [List.getElem?_toArray, List.getElem?_cons_succ, List.getElem?_cons_zero]; rfl) (by kernel_rfl) (by kernel_rfl) (by kernel_rfl) (by kernel_rfl) (by kernel_rfl) (by exact fun _ _ _ h => h) (Or.inl ⟨by rfl, ?_⟩) hH ?_
    rotate_left
    · (intro wy hSw; (try dsimp only at hSw); have k0 := HL0.out wy hSw; go_simp; try (with_reducible rfl))
    try simp only [Act.put, List.setIfInBounds_toArray, List.set_cons_zero, List.set_cons_succ]
    refine Late.Goes.one (i := 4) (by kernel_rfl) (by simp only [List.getElem?_toArray, List.getElem?_cons_succ, List.getElem?_cons_zero]; rfl) (fun K hK => ?_)
    clear hH
    refine wp_store_blk (by rfl) 39 _ _ rfl b4 0 (ecells (ent o)) rfl rfl (blk_there0 (HS3.out.2.1.but ((But.refl (fun _ => False) W3).drew) (fun h => h)) (by rw [ecells_length, ecells_length])) (by rw [ecells_length]; exact entry_size) (ecells_one _) ?_
    have HS4 := Lib.hid (And.intro (HS3.out.1.drew.trans (but_setCells b4 (ecells (ent o)) 0 W3.drew) (fun k hk e => by have := HBL.out; omega)) (And.intro (blk_set0 (vs := ecells (ent o)) (HS3.out.2.1.but ((But.refl (fun _ => False) W3).drew) (fun h => h)) (by rw [ecells_length, ecells_length])) ((HS3.out.2.2.but ((But.refl (fun _ => False) W3).drew) (fun h => h)).but (but_setCells b4 (ecells (ent o)) 0 W3.drew) (fun e => by have := HE0.out.lt; omega))))
    generalize W3.drew.setCells b4 0 (ecells (ent o)) = W4 at HS4 ⊢
    refine hK.out _ _ ?_ (fun hH => ?_)
    · exact fun _ => HS4.out.2.2
    clear hK K
    have hH := hH rfl
    try simp only [Act.put, List.setIfInBounds_toArray, List.set_cons_zero, List.set_cons_succ]
    refine Late.Goes.takeT (i := 5) (v := ?_) (by simp only [List.getElem?_toArray, List.getElem?_cons_succ, List.getElem?_cons_zero]; rfl) (by kernel_rfl) (by kernel_rfl) (by kernel_rfl) (by kernel_rfl) (by kernel_rfl) (by exact fun _ _ _ h => h) (Or.inl ⟨by rfl, ?_⟩) hH ?_
    rotate_left
    · (intro wy hSw; (try dsimp only at hSw); have k0 := HL0.out wy hSw; go_simp; try (with_reducible rfl))
    try simp only [Act.put, List.setIfInBounds_toArray, List.set_cons_zero, List.set_cons_succ]
    refine Late.Goes.done (by kernel_rfl) ?_ _
    go_wp2_with fail
    refine bodyPost_ret (results_row_tmp rfl _ _ b4 39 (ecells (ent o)).toArray (0, 0) _ rfl HS4.out.2.1 Try.underlying39 rfl entry_size) rfl ?_
    exact ⟨rfl, HS4.out.1⟩
end
end Go.Proofs.Ytgjofinbdigmcaa.Key
