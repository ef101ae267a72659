/- Contracts of the methods of the heap's places that look, and of Swap. -/
import Derived.Test.YtdkknjgjogekiaaExpAt
namespace Go.Proofs.Ytdkknjgjogekiaa.Late
theorem Goes.anew {P : Program} {ops : Array Oper} {Q : Exit → Act → World → Prop} {S : World → Prop} {late late' : Nat → Bool} : ∀ {n : Nat} {li : Array Bool} {a : Act} {w : World}, Goes P ops Q S late n li a w → Goes P ops Q (fun _ => True) late' n li a w
  | 0, _, _, _, h => h
  | _ + 1, _, _, _, h => ⟨h.1, fun j hj => wpOp_mono (fun _ _ k => ⟨fun _ => trivial, k.2.anew⟩) (h.2 j hj)⟩
end Go.Proofs.Ytdkknjgjogekiaa.Late
namespace Go.Proofs.Ytdkknjgjogekiaa.Exp
open Go.Proofs.Ytdkknjgjogekiaa.Mem
open Go.ChangeShapes Go.WideShapes Go.ChangeAt Go.RowKit
set_option linter.unusedVariables false
set_option linter.unusedSimpArgs false
section
variable {w : World} {g : Nat} {l : List It} {rest : List Value}
set_option maxRecDepth 100000 in
set_option maxHeartbeats 400000 in
theorem len_at (w : World) (a : Option Addr) (n cap : Nat) : Calls Try.prog 37 #[.slice a n cap] w fun e w' => e = .returned (.int .i64 (n : Int)) ∧ w' = w := by
  go_enter Try.func37, Try.ntmps37
  go_wp2
  go_ret
  exact ⟨rfl, rfl⟩
theorem lt_time {a b : It} (h : a.time ≠ b.time) : lt a b = decide (a.time < b.time) := by
  unfold lt
  have : (a.time == b.time) = false := beq_eq_false_iff_ne.2 h
  rw [this]
  simp
theorem lt_key {a b : It} (h : a.time = b.time) : lt a b = Op.bytesLess a.key.toList b.key.toList := by
  unfold lt
  rw [h]
  simp
set_option maxRecDepth 100000 in
set_option maxHeartbeats 1000000 in
theorem less_at (h : IRow w 29 g l rest) {i j : Nat} (hi : i < l.length) (hj : j < l.length) (hn : l.length ≤ 1000) (cap : Nat) :
    Calls Try.prog 38 #[.slice (some ⟨g, 0, none⟩) l.length cap, .int .i64 (i : Int), .int .i64 (j : Int)] w fun e w' => e = .returned (.bool (lt (look l i) (look l j))) ∧ ∃ q, w' = w.drewN q := by
  have a0 := fun q => ((h.drewN q).cells hi).1
  have a1 := fun q => ((h.drewN q).cells hi).2
  have b0 := fun q => ((h.drewN q).cells hj).1
  have b1 := fun q => ((h.drewN q).cells hj).2
  obtain ⟨x, hx⟩ : ∃ x, x = look l i := ⟨_, rfl⟩
  obtain ⟨y, hy⟩ : ∃ y, y = look l j := ⟨_, rfl⟩
  rw [← hx] at a0 a1 ⊢
  rw [← hy] at b0 b1 ⊢
  obtain ⟨n, hln⟩ : ∃ n, n = l.length := ⟨_, rfl⟩
  rw [← hln] at hi hj hn ⊢
  clear hx hy hln h
  have hi0 : (i : Int) < (n : Int) := by omega
  have hj0 : (j : Int) < (n : Int) := by omega
  have c0 := a0 0
  have c1 := a1 0
  have d0 := b0 0
  have d1 := b1 0
  rw [World.drewN_zero] at c0 c1 d0 d1
  by_cases ht : x.time = y.time
  · have he : ((x.time : Int) == (y.time : Int)) = true := by rw [ht]; exact beq_self_eq_true _
    rw [lt_key ht]
    go_enter Try.func38, Try.ntmps38
    go_wp2_with fail
    go_quiet (fail)
    obtain ⟨V, hV⟩ : ∃ V, V = w.drewN nq := ⟨_, rfl⟩
    have e1 := fun q => show (V.drewN q).cell? ⟨g, i * 2 + 1, none⟩ = some (.string x.key) from by rw [hV]; exact a1 0
    have e2 := fun q => show (V.drewN q).cell? ⟨g, j * 2 + 1, none⟩ = some (.string y.key) from by rw [hV]; exact b1 0
    rw [← hV]
    have HV := Lib.hid hV
    clear hV a0 a1 b0 b1 c0 c1 d0 d1
    have f1 := e1 0
    have f2 := e2 0
    rw [World.drewN_zero] at f1 f2
    go_wp2_with fail
    go_quiet (fail)
    go_wp2_with fail
    go_ret
    exact ⟨rfl, _, by rw [HV.out, World.drewN_drewN]⟩
  · have he : ((x.time : Int) == (y.time : Int)) = false := beq_eq_false_iff_ne.2 (by omega)
    rw [lt_time ht]
    go_enter Try.func38, Try.ntmps38
    go_wp2_with fail
    go_quiet (fail)
    obtain ⟨V, hV⟩ : ∃ V, V = w.drewN nq := ⟨_, rfl⟩
    have e1 := fun q => show (V.drewN q).cell? ⟨g, i * 2, none⟩ = some (.int .u64 (x.time : Int)) from by rw [hV]; exact a0 0
    have e2 := fun q => show (V.drewN q).cell? ⟨g, j * 2, none⟩ = some (.int .u64 (y.time : Int)) from by rw [hV]; exact b0 0
    rw [← hV]
    have HV := Lib.hid hV
    clear hV a0 a1 b0 b1 c0 c1 d0 d1
    have f1 := e1 0
    have f2 := e2 0
    rw [World.drewN_zero] at f1 f2
    go_wp2_with fail
    go_quiet (fail)
    go_wp2_with fail
    go_ret
    exact ⟨rfl, _, by rw [HV.out, World.drewN_drewN]⟩
theorem yields_item {ops : Array Oper} {S : World → Prop} {op : Oper} {a : Act} (hw : Region.wanted op (yielded ops a.tmps) = true) (x : Operand) (ho : op.op = .load 29 x) (b o : Nat) (hx : a.eval x = .pointer (some ⟨b, o, none⟩)) (q : It) (hS : ∀ w, S w → w.rangeAt b o (icells q)) : YieldsIf Try.prog ops S op (.agg #[.int .u64 (q.time : Int), .string q.key]) a :=
  yieldsIf_load_mid hw _ x ho b o hx (icells q) _ hS Try.underlying29 rfl (by rw [icells_length]; exact item_size)
theorem wp_store_blk {ops : Array Oper} {op : Oper} {a : Act} {w : World} {K : Act → World → Prop} {Q : Exit → Act → World → Prop} {E : Prop} (hwd : Region.wanted op (yielded ops a.tmps) = true) (ty : TypeId) (x y : Operand) (ho : op.op = .store ty x y)
    (b o : Nat) (vs : List Value) (hx : a.eval x = .pointer (some ⟨b, o, none⟩)) (hy : a.eval y = .agg vs.toArray)
    (ht : w.there b o vs.length) (hi : (Try.prog.info? ty).map (·.size) = some vs.length) (h1 : ∀ v ∈ vs, v.oneCell' = true)
    (h : K (a.put op.dst undef) (w.setCells b o vs)) : if Region.wanted op (yielded ops a.tmps) = true then Oper.wp Try.prog op a w K Q else E := by
  rw [if_pos hwd]
  exact wp_store_mid ty x y ho b o vs.toArray hx hy (by simpa using ht) (by simpa using hi) (all_oneCell_toArray h1) (by simpa using h)
set_option maxRecDepth 100000 in
set_option maxHeartbeats 1000000 in
theorem swap_at (h : IRow w 29 g l rest) {i j : Nat} (hi : i < l.length) (hj : j < l.length) (hn : l.length ≤ 1000) (cap : Nat) :
    Calls Try.prog 39 #[.slice (some ⟨g, 0, none⟩) l.length cap, .int .i64 (i : Int), .int .i64 (j : Int)] w fun e w' => e = .returned (.tuple #[]) ∧ IRow w' 29 g (swap l i j) rest ∧ But (fun k => k = g) w w' := by
  have HR1 := Lib.hid (fun V (hV : V = w.drew) => show World.rangeAt V g (i * 2) (icells (look l i)) from by rw [hV]; exact h.range hi)
  have HR2 := Lib.hid (fun V (hV : V = w.drew) => show World.rangeAt V g (j * 2) (icells (look l j)) from by rw [hV]; exact h.range hj)
  have h0 : IRow w.drew 29 g l rest := ⟨h.blk⟩
  have h1 := h0.put hi (look l j)
  have h2 := h1.put (i := j) (by rw [List.length_set]; exact hj) (look l i)
  have HT1 := Lib.hid (h0.there hi)
  have HT2 := Lib.hid (h1.there (i := j) (by rw [List.length_set]; exact hj))
  have HE := Lib.hid (show IRow ((w.drew.setCells g (i * 2) (icells (look l j))).setCells g (j * 2) (icells (look l i))) 29 g (swap l i j) rest from h2)
  have HB := Lib.hid (show But (fun k => k = g) w ((w.drew.setCells g (i * 2) (icells (look l j))).setCells g (j * 2) (icells (look l i))) from (((But.refl (fun k => k = g) w).drew).trans' (but_setCells _ _ _ _)).trans' (but_setCells _ _ _ _))
  obtain ⟨x, hx⟩ : ∃ x, x = look l i := ⟨_, rfl⟩
  obtain ⟨y, hy⟩ : ∃ y, y = look l j := ⟨_, rfl⟩
  obtain ⟨R, hR⟩ : ∃ R, R = swap l i j := ⟨_, rfl⟩
  rw [← hx] at HR1 HE HB
  rw [← hy] at HR2 HT2 HE HB
  rw [← hR] at HE ⊢
  obtain ⟨n, hln⟩ : ∃ n, n = l.length := ⟨_, rfl⟩
  rw [← hln] at hi hj hn ⊢
  clear hx hy hln h h0 h1 h2 hR
  have hi0 : (i : Int) < (n : Int) := by omega
  have hj0 : (j : Int) < (n : Int) := by omega
  go_enter Try.func39, Try.ntmps39
  go_wp2_with fail
  refine Late.region_goes (fun _ => True) (fun _ => false) (by kernel_rfl) ?_ (fun hH => ?_)
  · trivial
  refine Late.Goes.takeT (i := 2) (v := ?_) (by simp only [List.getElem?_toArray, List.getElem?_cons_succ, List.getElem?_cons_zero]; rfl) (by kernel_rfl) (by kernel_rfl) (by kernel_rfl) (by kernel_rfl) (by kernel_rfl) (by exact fun _ _ _ h => h) (Or.inl ⟨by rfl, ?_⟩) hH ?_
  rotate_left
  · (intro wy hSw; (try dsimp only at hSw); skip; go_simp; try (with_reducible rfl))
  try simp only [Act.put, List.setIfInBounds_toArray, List.set_cons_zero, List.set_cons_succ]
  refine Late.Goes.takeT (i := 3) (v := ?_) (by simp only [List.getElem?_toArray, List.getElem?_cons_succ, List.getElem?_cons_zero]; rfl) (by kernel_rfl) (by kernel_rfl) (by kernel_rfl) (by kernel_rfl) (by kernel_rfl) (by exact fun _ _ _ h => h) (Or.inl ⟨by rfl, ?_⟩) hH ?_
  rotate_left
  · (intro wy hSw; (try dsimp only at hSw); skip; go_simp; try (with_reducible rfl))
  try simp only [Act.put, List.setIfInBounds_toArray, List.set_cons_zero, List.set_cons_succ]
  refine Late.Goes.anew (S := fun V => V = w.drew) (late := fun i => !(i != 13 && i != 14 && i != 15)) ?_
  have hH : (fun V => V = w.drew) w.drew := rfl
  refine Late.Goes.takeT (i := 0) (v := ?_) (by simp only [List.getElem?_toArray, List.getElem?_cons_succ, List.getElem?_cons_zero]; rfl) (by kernel_rfl) (by kernel_rfl) (by kernel_rfl) (by kernel_rfl) (by kernel_rfl) (by exact fun _ _ _ h => h) (Or.inl ⟨by rfl, ?_⟩) hH ?_
  rotate_left
  · (intro wy hSw; (try dsimp only at hSw); skip; go_simp; try (with_reducible rfl))
  try simp only [Act.put, List.setIfInBounds_toArray, List.set_cons_zero, List.set_cons_succ]
  refine Late.Goes.takeT (i := 1) (v := ?_) (by simp only [List.getElem?_toArray, List.getElem?_cons_succ, List.getElem?_cons_zero]; rfl) (by kernel_rfl) (by kernel_rfl) (by kernel_rfl) (by kernel_rfl) (by kernel_rfl) (by exact fun _ _ _ h => h) (Or.inl ⟨by rfl, ?_⟩) hH ?_
  rotate_left
  · (intro wy hSw; (try dsimp only at hSw); skip; go_simp; try (with_reducible rfl))
  try simp only [Act.put, List.setIfInBounds_toArray, List.set_cons_zero, List.set_cons_succ]
  refine Late.Goes.takeT (i := 4) (v := ?_) (by simp only [List.getElem?_toArray, List.getElem?_cons_succ, List.getElem?_cons_zero]; rfl) (by kernel_rfl) (by kernel_rfl) (by kernel_rfl) (by kernel_rfl) (by kernel_rfl) (by exact fun _ _ _ h => h) (Or.inl ⟨by rfl, ?_⟩) hH ?_
  rotate_left
  · (intro wy hSw; (try dsimp only at hSw); skip; go_simp; try (with_reducible rfl))
  try simp only [Act.put, List.setIfInBounds_toArray, List.set_cons_zero, List.set_cons_succ]
  refine Late.Goes.takeT (i := 5) (v := ?_) (by simp only [List.getElem?_toArray, List.getElem?_cons_succ, List.getElem?_cons_zero]; rfl) (by kernel_rfl) (by kernel_rfl) (by kernel_rfl) (by kernel_rfl) (by kernel_rfl) (by exact fun _ _ _ h => h) (Or.inl ⟨by rfl, ?_⟩) hH ?_
  rotate_left
  · (intro wy hSw; (try dsimp only at hSw); skip; go_simp; try (with_reducible rfl))
  try simp only [Act.put, List.setIfInBounds_toArray, List.set_cons_zero, List.set_cons_succ]
  refine Late.Goes.takeT (i := 6) (v := ?_) (by simp only [List.getElem?_toArray, List.getElem?_cons_succ, List.getElem?_cons_zero]; rfl) (by kernel_rfl) (by kernel_rfl) (by kernel_rfl) (by kernel_rfl) (by kernel_rfl) (by exact fun _ _ _ h => h) (Or.inl ⟨by rfl, ?_⟩) hH ?_
  rotate_left
  · (intro wy hSw; (try dsimp only at hSw); skip; go_simp; try (with_reducible rfl))
  try simp only [Act.put, List.setIfInBounds_toArray, List.set_cons_zero, List.set_cons_succ]
  refine Late.Goes.takeT (i := 7) (v := _) (by simp only [List.getElem?_toArray, List.getElem?_cons_succ, List.getElem?_cons_zero]; rfl) (by kernel_rfl) (by kernel_rfl) (by kernel_rfl) (by kernel_rfl) (by kernel_rfl) (by exact fun _ _ _ h => h) (yields_item (by rfl) _ rfl g (j * 2) rfl y (fun V hV => HR2.out V hV)) hH ?_
  try simp only [Act.put, List.setIfInBounds_toArray, List.set_cons_zero, List.set_cons_succ]
  refine Late.Goes.takeT (i := 8) (v := ?_) (by simp only [List.getElem?_toArray, List.getElem?_cons_succ, List.getElem?_cons_zero]; rfl) (by kernel_rfl) (by kernel_rfl) (by kernel_rfl) (by kernel_rfl) (by kernel_rfl) (by exact fun _ _ _ h => h) (Or.inl ⟨by rfl, ?_⟩) hH ?_
  rotate_left
  · (intro wy hSw; (try dsimp only at hSw); skip; go_simp; try (with_reducible rfl))
  try simp only [Act.put, List.setIfInBounds_toArray, List.set_cons_zero, List.set_cons_succ]
  refine Late.Goes.takeT (i := 9) (v := ?_) (by simp only [List.getElem?_toArray, List.getElem?_cons_succ, List.getElem?_cons_zero]; rfl) (by kernel_rfl) (by kernel_rfl) (by kernel_rfl) (by kernel_rfl) (by kernel_rfl) (by exact fun _ _ _ h => h) (Or.inl ⟨by rfl, ?_⟩) hH ?_
  rotate_left
  · (intro wy hSw; (try dsimp only at hSw); skip; go_simp; try (with_reducible rfl))
  try simp only [Act.put, List.setIfInBounds_toArray, List.set_cons_zero, List.set_cons_succ]
  refine Late.Goes.takeT (i := 10) (v := ?_) (by simp only [List.getElem?_toArray, List.getElem?_cons_succ, List.getElem?_cons_zero]; rfl) (by kernel_rfl) (by kernel_rfl) (by kernel_rfl) (by kernel_rfl) (by kernel_rfl) (by exact fun _ _ _ h => h) (Or.inl ⟨by rfl, ?_⟩) hH ?_
  rotate_left
  · (intro wy hSw; (try dsimp only at hSw); skip; go_simp; try (with_reducible rfl))
  try simp only [Act.put, List.setIfInBounds_toArray, List.set_cons_zero, List.set_cons_succ]
  refine Late.Goes.takeT (i := 11) (v := _) (by simp only [List.getElem?_toArray, List.getElem?_cons_succ, List.getElem?_cons_zero]; rfl) (by kernel_rfl) (by kernel_rfl) (by kernel_rfl) (by kernel_rfl) (by kernel_rfl) (by exact fun _ _ _ h => h) (yields_item (by rfl) _ rfl g (i * 2) rfl x (fun V hV => HR1.out V hV)) hH ?_
  try simp only [Act.put, List.setIfInBounds_toArray, List.set_cons_zero, List.set_cons_succ]
  refine Late.Goes.takeT (i := 12) (v := ?_) (by simp only [List.getElem?_toArray, List.getElem?_cons_succ, List.getElem?_cons_zero]; rfl) (by kernel_rfl) (by kernel_rfl) (by kernel_rfl) (by kernel_rfl) (by kernel_rfl) (by exact fun _ _ _ h => h) (Or.inl ⟨by rfl, ?_⟩) hH ?_
  rotate_left
  · (intro wy hSw; (try dsimp only at hSw); skip; go_simp; try (with_reducible rfl))
  try simp only [Act.put, List.setIfInBounds_toArray, List.set_cons_zero, List.set_cons_succ]
  refine Late.Goes.one (i := 13) (by kernel_rfl) (by simp only [List.getElem?_toArray, List.getElem?_cons_succ, List.getElem?_cons_zero]; rfl) (fun K hK => ?_)
  clear hH
  refine wp_store_blk (by rfl) 29 _ _ rfl g (i * 2) (icells y) rfl rfl (by rw [icells_length]; exact HT1.out) (by rw [icells_length]; exact item_size) (icells_one _) ?_
  refine hK.out _ _ ?_ (fun _ => ?_)
  · exact fun h => by cases h
  clear hK K
  try simp only [Act.put, List.setIfInBounds_toArray, List.set_cons_zero, List.set_cons_succ]
  have hH : True := trivial
  generalize w.drew.setCells g (i * 2) (icells y) = W2 at HT2 HE HB ⊢
  refine Late.Goes.one (i := 14) (by kernel_rfl) (by simp only [List.getElem?_toArray, List.getElem?_cons_succ, List.getElem?_cons_zero]; rfl) (fun K hK => ?_)
  clear hH
  go_simp
  refine hK.out _ _ ?_ (fun _ => ?_)
  · exact fun h => by cases h
  clear hK K
  try simp only [Act.put, List.setIfInBounds_toArray, List.set_cons_zero, List.set_cons_succ]
  have hH : True := trivial
  refine Late.Goes.one (i := 15) (by kernel_rfl) (by simp only [List.getElem?_toArray, List.getElem?_cons_succ, List.getElem?_cons_zero]; rfl) (fun K hK => ?_)
  clear hH
  refine wp_store_blk (by rfl) 29 _ _ rfl g (j * 2) (icells x) rfl rfl (by rw [icells_length]; exact HT2.out) (by rw [icells_length]; exact item_size) (icells_one _) ?_
  refine hK.out _ _ ?_ (fun _ => ?_)
  · exact fun h => by cases h
  clear hK K
  try simp only [Act.put, List.setIfInBounds_toArray, List.set_cons_zero, List.set_cons_succ]
  refine Late.Goes.done (by kernel_rfl) ?_ _
  go_wp2
  go_end0
  exact ⟨rfl, HE.out, HB.out⟩
end
end Go.Proofs.Ytdkknjgjogekiaa.Exp
