/- The law's own list of loads: its cells in memory, how it mirrors the loads. -/
import Derived.Test.YtomeehecegehbaaLdMath
import Derived.Test.YtomeehecegehbaaLdDeed
import Derived.Test.YtomeehecegehbaaMany
namespace Go.Proofs.Ytomeehecegehbaa.Ld
open Go.Proofs.Ytomeehecegehbaa.Mem
open Go.ChangeShapes Go.WideShapes Go.ChangeAt Go.RowKit
set_option linter.unusedVariables false
set_option linter.unusedSimpArgs false
structure Pair where
  k : Int
  a : Nat
  b : Nat
def pcells (x : Pair) : List Value := [.int .i64 x.k, .int .i64 (x.a : Int), .int .i64 (x.b : Int)]
theorem pcells_length (x : Pair) : (pcells x).length = 3 := rfl
theorem pcells_one (x : Pair) : ∀ u ∈ pcells x, u.oneCell' = true := by simp [pcells, Value.oneCell']
def pcl (M : List Pair) : List Value := M.flatMap pcells
theorem pcl_length (M : List Pair) : (pcl M).length = M.length * 3 := flat_length pcells_length M
theorem pcl_snoc (M : List Pair) (x : Pair) : pcl (M ++ [x]) = pcl M ++ pcells x := by simp [pcl]
theorem pair_info : (Try.prog.info? 30).map (fun i => (i.zero, i.size, i.bytes)) = some (some (.agg #[.int .i64 0, .int .i64 0, .int .i64 0]), 3, 24) := by kernel_rfl
theorem pair_size : (Try.prog.info? 30).map (·.size) = some 3 := by kernel_rfl
theorem deed_size : (Try.prog.info? 28).map (·.size) = some 4 := by kernel_rfl
theorem dcells_one (x : Deed) : ∀ v ∈ dcells x, v.oneCell' = true := by simp [dcells, Value.oneCell']
/- The list mirrors the loads. -/
structure Mir (f : Int → Pr) (M : List Pair) : Prop where
  nodup : (M.map (·.k)).Nodup
  val : ∀ x ∈ M, f x.k = (x.a, x.b)
  out : ∀ s, (∀ x ∈ M, x.k ≠ s) → f s = (0, 0)
theorem mir_new : Mir (fun _ => (0, 0)) [] := ⟨List.nodup_nil, fun x h => by simp at h, fun _ _ => rfl⟩
theorem Mir.add {f : Int → Pr} {M : List Pair} (h : Mir f M) {k : Int} (hk : ∀ x ∈ M, x.k ≠ k) : Mir f (M ++ [⟨k, 0, 0⟩]) where
  nodup := by
    rw [List.map_append, List.nodup_append]
    refine ⟨h.nodup, by simp, ?_⟩
    intro a ha b hb e
    obtain ⟨x, hx, rfl⟩ := List.mem_map.1 ha
    simp at hb
    exact hk x hx (e.trans hb)
  val x hx := by
    rcases List.mem_append.1 hx with hx | hx
    · exact h.val x hx
    · simp at hx
      subst hx
      exact h.out k hk
  out s hs := h.out s fun x hx => hs x (List.mem_append_left _ hx)
theorem Mir.set {f : Int → Pr} {M : List Pair} (h : Mir f M) {j : Nat} (hj : j < M.length) {k : Int} (hk : M[j].k = k) (a b : Nat) : Mir (upd f k (a, b)) (M.set j ⟨k, a, b⟩) where
  nodup := by
    have e : (M.set j ⟨k, a, b⟩).map (·.k) = M.map (·.k) := by
      rw [List.map_set]
      apply List.ext_getElem?
      intro i
      rw [List.getElem?_set]
      split
      · rename_i e
        subst e
        simp [hj, hk]
      · rfl
    rw [e]; exact h.nodup
  val x hx := by
    obtain ⟨i, hi, rfl⟩ := List.mem_iff_getElem.1 hx
    rw [List.getElem_set]
    split
    · exact upd_same f k _
    · rename_i hne
      have hi' : i < M.length := by simpa using hi
      have hk2 : M[i].k ≠ k := by
        intro e
        have hn := List.pairwise_iff_getElem.1 h.nodup
        rcases Nat.lt_trichotomy i j with hc | hc | hc
        · exact hn i j (by simpa using hi') (by simpa using hj) hc (by simp [e, hk])
        · exact hne hc.symm
        · exact hn j i (by simpa using hj) (by simpa using hi') hc (by simp [e, hk])
      rw [upd_other f _ hk2]
      exact h.val _ (List.getElem_mem hi')
  out s hs := by
    have hsk : s ≠ k := by
      intro e
      have := hs ⟨k, a, b⟩ (List.mem_iff_getElem.2 ⟨j, by simpa using hj, by simp⟩)
      exact this e.symm
    rw [upd_other f _ hsk]
    refine h.out s fun x hx e => ?_
    obtain ⟨i, hi, rfl⟩ := List.mem_iff_getElem.1 hx
    by_cases hij : i = j
    · subst hij
      exact hsk (e ▸ hk)
    · exact hs M[i] (List.mem_iff_getElem.2 ⟨i, by simpa using hi, by rw [List.getElem_set_ne (Ne.symm hij)]⟩) e
/- What the list comes to. -/
def ma (M : List Pair) : Nat := (M.map (·.a)).sum
def mb_ (M : List Pair) : Nat := (M.map (·.b)).sum
def nz (x : Pair) : Bool := decide (0 < x.a + x.b)
def mc (M : List Pair) : Nat := (M.filter nz).length
theorem ma_snoc (M : List Pair) (x : Pair) : ma (M ++ [x]) = ma M + x.a := by simp [ma]
theorem mb_snoc (M : List Pair) (x : Pair) : mb_ (M ++ [x]) = mb_ M + x.b := by simp [mb_]
theorem mc_snoc (M : List Pair) (x : Pair) : mc (M ++ [x]) = mc M + if 0 < x.a + x.b then 1 else 0 := by
  unfold mc
  rw [List.filter_append, List.length_append]
  by_cases h : 0 < x.a + x.b
  · rw [if_pos h, List.filter_cons_of_pos (by simpa [nz] using h)]; rfl
  · rw [if_neg h, List.filter_cons_of_neg (by simpa [nz] using h)]; rfl
theorem ma_nz : ∀ M : List Pair, ma (M.filter nz) = ma M ∧ mb_ (M.filter nz) = mb_ M
  | [] => ⟨rfl, rfl⟩
  | x :: M => by
    have ih := ma_nz M
    by_cases h : 0 < x.a + x.b
    · rw [List.filter_cons_of_pos (by simpa [nz] using h)]
      simp only [ma, mb_, List.map_cons, List.sum_cons] at ih ⊢
      omega
    · rw [List.filter_cons_of_neg (by simpa [nz] using h)]
      simp only [ma, mb_, List.map_cons, List.sum_cons] at ih ⊢
      omega
theorem ma_le : ∀ {M : List Pair}, (∀ x ∈ M, x.a ≤ 1099511627776 ∧ x.b ≤ 1099511627776) → ma M ≤ M.length * 1099511627776 ∧ mb_ M ≤ M.length * 1099511627776
  | [], _ => ⟨by simp [ma], by simp [mb_]⟩
  | x :: M, h => by
    have ih := ma_le (M := M) (fun y hy => h y (List.mem_cons_of_mem _ hy))
    have hx := h x List.mem_cons_self
    simp only [ma, mb_, List.map_cons, List.sum_cons, List.length_cons] at ih ⊢
    omega
theorem mc_le (M : List Pair) : mc M ≤ M.length := List.length_filter_le _ _
theorem Mir.ks {f : Int → Pr} {M : List Pair} (h : Mir f M) : Ks f ((M.filter nz).map (·.k)) := by
  refine ⟨?_, fun s => ?_⟩
  · exact h.nodup.sublist (List.filter_sublist.map _)
  · constructor
    · intro hs
      obtain ⟨x, hx, rfl⟩ := List.mem_map.1 hs
      obtain ⟨hx, hn⟩ := List.mem_filter.1 hx
      rw [h.val x hx]
      intro e
      injection e with e1 e2
      simp [nz] at hn
      omega
    · intro hs
      have : ∃ x ∈ M, x.k = s := Classical.byContradiction fun hno => hs (h.out s fun x hx e => hno ⟨x, hx, e⟩)
      obtain ⟨x, hx, rfl⟩ := this
      refine List.mem_map.2 ⟨x, List.mem_filter.2 ⟨hx, ?_⟩, rfl⟩
      rw [h.val x hx] at hs
      simp only [nz, decide_eq_true_eq]
      refine Classical.byContradiction fun hno => hs ?_
      rw [show x.a = 0 by omega, show x.b = 0 by omega]
theorem Mir.sums {f : Int → Pr} {M : List Pair} (h : Mir f M) {ss : List Int} (hk : Ks f ss) : s1 f ss = ma M ∧ s2 f ss = mb_ M ∧ ss.length = mc M := by
  have hp := ks_perm hk h.ks
  have e1 : ∀ L : List Pair, (∀ x ∈ L, x ∈ M) → s1 f (L.map (·.k)) = ma L ∧ s2 f (L.map (·.k)) = mb_ L := by
    intro L hL
    induction L with
    | nil => exact ⟨rfl, rfl⟩
    | cons x L ih =>
      have := ih (fun y hy => hL y (List.mem_cons_of_mem _ hy))
      have hv := h.val x (hL x List.mem_cons_self)
      simp only [s1, s2, ma, mb_, List.map_cons, List.sum_cons] at this ⊢
      rw [hv]
      exact ⟨by rw [this.1], by rw [this.2]⟩
  have e2 := e1 (M.filter nz) (fun x hx => (List.mem_filter.1 hx).1)
  have e3 := ma_nz M
  refine ⟨?_, ?_, ?_⟩
  · rw [s1_perm hp, e2.1, e3.1]
  · rw [s2_perm hp, e2.2, e3.2]
  · rw [hp.length_eq, List.length_map]; rfl
theorem Mir.at_ {f : Int → Pr} {M : List Pair} (h : Mir f M) {s : Int} (hs : f s ≠ (0, 0)) : ∃ x ∈ M, x.k = s := Classical.byContradiction fun hno => hs (h.out s fun x hx e => hno ⟨x, hx, e⟩)
/- Where a bucket is, among the first k. -/
def At2 (M : List Pair) (s : Int) (k : Nat) (v : Int) : Prop := (∃ j, ∃ h : j < M.length, j < k ∧ M[j].k = s ∧ v = (j : Int)) ∨ (v = -1 ∧ ∀ j (h : j < M.length), j < k → M[j].k ≠ s)
theorem At2.start (M : List Pair) (s : Int) : At2 M s 0 (-1) := .inr ⟨rfl, fun j h hj => by omega⟩
theorem At2.hit {M : List Pair} {s : Int} {k : Nat} (hk : k < M.length) (h : M[k].k = s) : At2 M s (k + 1) (k : Int) := .inl ⟨k, hk, by omega, h, rfl⟩
theorem At2.miss {M : List Pair} {s : Int} {k : Nat} {v : Int} (h0 : At2 M s k v) (hk : k < M.length) (h : M[k].k ≠ s) : At2 M s (k + 1) v := by
  rcases h0 with ⟨j, hj, h1, h2, h3⟩ | ⟨h1, h2⟩
  · exact .inl ⟨j, hj, by omega, h2, h3⟩
  · refine .inr ⟨h1, fun j hj hjk => ?_⟩
    by_cases e : j = k
    · subst e; exact h
    · exact h2 j hj (by omega)
/- A cell of a row of the call's own is set. -/
theorem own_cell {w : World} {base g n k cap : Nat} {t : TypeId} {xs : List Value} (h : w.ownsRow base t k (.slice (some ⟨g, 0, none⟩) n cap) n xs) (j : Nat) (u : Value) :
    (w.setCell ⟨g, j, none⟩ u).ownsRow base t k (.slice (some ⟨g, 0, none⟩) n cap) n (xs.set j u) := by
  obtain ⟨h1, h2⟩ := h
  rcases h2 with ⟨h2, _⟩ | ⟨g', cap', cur, h2, h3, h4, h5, h6, h7, h8⟩
  · cases h2
  · injection h2 with h2 _ h9
    injection h2 with h2
    injection h2 with h2
    subst h2 h9
    refine ⟨by rw [List.length_set]; exact h1, .inr ⟨g, cap, cur.setIfInBounds j u, rfl, h3, ?_, h5, h6, by rw [Array.size_setIfInBounds]; exact h7, ?_⟩⟩
    · have hb : Blk w g t cur := h4
      exact hb.set_ j u
    · rw [Array.toList_setIfInBounds, List.take_set, h8]
theorem set_flat {M : List Pair} {i : Nat} (hi : i < M.length) (y : Pair) : pcl (M.set i y) = (((pcl M).set (i * 3) (.int .i64 y.k)).set (i * 3 + 1) (.int .i64 (y.a : Int))).set (i * 3 + 2) (.int .i64 (y.b : Int)) := by
  have hs := flat_set (f := pcells) y hi
  have hx := flat_split (f := pcells) (List.getElem?_eq_getElem hi)
  have hl : ((M.take i).flatMap pcells).length = i * 3 := by rw [flat_length pcells_length, List.length_take, Nat.min_eq_left (by omega)]
  unfold pcl
  rw [hs, hx]
  generalize (M.take i).flatMap pcells = A at hl
  generalize (M.drop (i + 1)).flatMap pcells = C
  rw [← hl]
  simp [pcells, List.set_append]
theorem set_a {M : List Pair} {i : Nat} (hi : i < M.length) (a : Nat) : pcl (M.set i ⟨M[i].k, a, M[i].b⟩) = (pcl M).set (i * 3 + 1) (.int .i64 (a : Int)) := by
  have hs := flat_set (f := pcells) ⟨M[i].k, a, M[i].b⟩ hi
  have hx := flat_split (f := pcells) (List.getElem?_eq_getElem hi)
  have hl : ((M.take i).flatMap pcells).length = i * 3 := by rw [flat_length pcells_length, List.length_take, Nat.min_eq_left (by omega)]
  unfold pcl
  rw [hs, hx]
  generalize (M.take i).flatMap pcells = A at hl
  generalize (M.drop (i + 1)).flatMap pcells = C
  rw [← hl]
  simp [pcells, List.set_append]
theorem set_b {M : List Pair} {i : Nat} (hi : i < M.length) (b : Nat) : pcl (M.set i ⟨M[i].k, M[i].a, b⟩) = (pcl M).set (i * 3 + 2) (.int .i64 (b : Int)) := by
  have hs := flat_set (f := pcells) ⟨M[i].k, M[i].a, b⟩ hi
  have hx := flat_split (f := pcells) (List.getElem?_eq_getElem hi)
  have hl : ((M.take i).flatMap pcells).length = i * 3 := by rw [flat_length pcells_length, List.length_take, Nat.min_eq_left (by omega)]
  unfold pcl
  rw [hs, hx]
  generalize (M.take i).flatMap pcells = A at hl
  generalize (M.drop (i + 1)).flatMap pcells = C
  rw [← hl]
  simp [pcells, List.set_append]
theorem row_pair {w : World} {base g n cap : Nat} {M : List Pair} (h : w.ownsRow base 30 3 (.slice (some ⟨g, 0, none⟩) n cap) n (pcl M)) {i : Nat} (hi : i < M.length) :
    w.cell? ⟨g, i * 3, none⟩ = some (.int .i64 M[i].k) ∧ w.cell? ⟨g, i * 3 + 1, none⟩ = some (.int .i64 (M[i].a : Int)) ∧ w.cell? ⟨g, i * 3 + 2, none⟩ = some (.int .i64 (M[i].b : Int)) := by
  have hn : M.length = n := by have := h.1; rw [pcl_length] at this; omega
  have hc : ∀ j u, j < 3 → (pcells M[i])[j]? = some u → w.cell? ⟨g, i * 3 + j, none⟩ = some u := by
    intro j u hj hu
    have h1 := h.cellAt (i * 3 + j) (by omega)
    (try rw [Nat.zero_add] at h1)
    rw [h1]
    exact (flat_get pcells_length (l := M) (i := i) (j := j) (x := M[i]) (List.getElem?_eq_getElem _) hj).trans hu
  exact ⟨hc 0 _ (by omega) rfl, hc 1 _ (by omega) rfl, hc 2 _ (by omega) rfl⟩
theorem row_frozen {w : World} {base g n k cap : Nat} {t : TypeId} {xs : List Value} (h : w.ownsRow base t k (.slice (some ⟨g, 0, none⟩) n cap) n xs) (j : Nat) : w.frozen? ⟨g, j, none⟩ = false := by
  rcases h.2 with ⟨h2, _⟩ | ⟨g', cap', cur, h2, h3, h4, _⟩
  · cases h2
  · injection h2 with h2
    injection h2 with h2
    injection h2 with h2
    subst h2
    simp [World.frozen?, h4]
end Go.Proofs.Ytomeehecegehbaa.Ld
