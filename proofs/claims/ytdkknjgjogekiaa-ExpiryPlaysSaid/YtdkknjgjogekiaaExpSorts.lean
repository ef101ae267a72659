/- ExpirySorts walked: what was pushed is popped, rising, each as often. -/
import Derived.Test.YtdkknjgjogekiaaExpMap
namespace Go.Proofs.Ytdkknjgjogekiaa.Exp
open Go.Proofs.Ytdkknjgjogekiaa.Mem
open Go.ChangeShapes Go.WideShapes Go.ChangeAt Go.RowKit
set_option linter.unusedVariables false
set_option linter.unusedSimpArgs false
/- Items that came in. -/
structure Came (W : World) (a : Option Addr) (l : List It) : Prop where
  ok : ∀ x ∈ l, Ok x
  at_ : 0 < l.length → ∃ g o, a = some ⟨g, o, none⟩ ∧ g < W.heap.size ∧ ∀ i, i < l.length → W.rangeAt g (o + i * 2) (icells (look l i))
def sorted (l : List It) (k : Nat) : List It := (l.take k).foldl ins []
theorem sorted_zero (l : List It) : sorted l 0 = [] := rfl
theorem sorted_succ {l : List It} {k : Nat} (h : k < l.length) : sorted l (k + 1) = ins (sorted l k) (look l k) := by
  unfold sorted
  rw [List.take_succ_eq_append_getElem h, List.foldl_append, look_get h]
  rfl
theorem sorted_perm (l : List It) : ∀ k, k ≤ l.length → (sorted l k).Perm (l.take k)
  | 0, _ => by simp [sorted]
  | k + 1, h => by
    rw [sorted_succ (by omega), List.take_succ_eq_append_getElem (by omega), ← look_get (by omega : k < l.length)]
    exact (ins_perm _ _).trans ((List.Perm.cons _ (sorted_perm l k (by omega))).trans (List.perm_append_singleton _ _).symm)
theorem sorted_length (l : List It) {k : Nat} (h : k ≤ l.length) : (sorted l k).length = k := by
  rw [(sorted_perm l k h).length_eq, List.length_take]; omega
theorem count_ins (m : List It) (x y : It) : (ins m x).count y = if y = x then m.count x + 1 else m.count y := by
  rw [(ins_perm m x).count_eq, List.count_cons]
  by_cases h : y = x
  · subst h; simp
  · rw [if_neg h]
    have : (x == y) = false := beq_eq_false_iff_ne.2 (fun e => h e.symm)
    simp [this]
theorem count_cons_ (m : List It) (x y : It) : m.count y = if y = x then (x :: m).count x - 1 else (x :: m).count y := by
  rw [List.count_cons, List.count_cons]
  by_cases h : y = x
  · subst h; simp
  · rw [if_neg h]
    have : (x == y) = false := beq_eq_false_iff_ne.2 (fun e => h e.symm)
    simp [this]
section
variable {W w w' : World} {p mb k : Nat} {v v' : Value} {l m m' : List It} {f : It → Nat}
theorem HM.ris {B : Nat} (h : HM w B p v m) : Ris m := by
  obtain ⟨l, h, r⟩ := h
  exact r.2.2
theorem HM.cells {B : Nat} (h : HM w B p v m) {j : Nat} (hj : j = p ∨ some j = v.ownBlock) : ∃ t cs, Blk w j t cs := by
  obtain ⟨l, h, r⟩ := h
  rcases hj with rfl | hj
  · exact ⟨_, _, h.blk⟩
  · rcases h.own.2 with ⟨h1, _⟩ | ⟨g, cap, cur, h1, h2, h3, _⟩
    · rw [h1] at hj; cases hj
    · rw [h1] at hj
      have : j = g := Option.some.inj hj
      subst this
      exact ⟨_, _, h3⟩
theorem Live.map_off (h : Live W w p v m) (hm : Had w mb k f) : ¬ Foot p v mb := by
  intro hf
  obtain ⟨t, cs, hb⟩ := h.heap.cells hf
  exact hm.ne hb rfl
theorem Live.map_put (h : Live W w p v m) (hm : Had w mb k f) (hmb : W.heap.size ≤ mb) (hb : But (fun j => j = mb) w w') : Live W w' p v m :=
  ⟨h.heap.but hb (fun e => h.map_off hm (.inl e.symm)) (fun j hj e => h.map_off hm (.inr (by rw [hj, e]))), h.low, h.but.trans hb (fun i hi e => by omega)⟩
theorem Came.cell {a : Option Addr} (h : Came W a l) (hb : But (fun _ => False) W w) {i : Nat} (hi : i < l.length) : ∃ g o, a = some ⟨g, o, none⟩ ∧ w.cell? ⟨g, o + i * 2, none⟩ = some (.int .u64 ((look l i).time : Int)) ∧ w.cell? ⟨g, o + i * 2 + 1, none⟩ = some (.string (look l i).key) := by
  obtain ⟨g, o, ha, hg, hr⟩ := h.at_ (by omega)
  refine ⟨g, o, ha, ?_, ?_⟩
  · exact (hb.cell (p := ⟨g, o + i * 2, none⟩) hg (fun h => h)).trans (hr i hi 0 _ rfl)
  · exact (hb.cell (p := ⟨g, o + i * 2 + 1, none⟩) hg (fun h => h)).trans (hr i hi 1 _ rfl)
theorem Live.store (h : Live W w p v m) {q : Nat} (hq : ¬ Foot p v q) (hlow : W.heap.size ≤ q) (hb : But (fun j => j = q) w w') : Live W w' p v m :=
  ⟨h.heap.but hb (fun e => hq (.inl e.symm)) (fun j hj e => hq (.inr (by rw [hj, e]))), h.low, h.but.trans hb (fun i hi e => by omega)⟩
/- Behind k pops: the last one lies in block q. -/
structure S2 (W : World) (p mb q N : Nat) (M : List It) (k : Nat) (v : Value) (wr : World) : Prop where
  live : Live W wr p v (M.drop k)
  had : Had wr mb (N + k) (fun x => (M.drop k).count x)
  low : W.heap.size ≤ mb
  qlow : W.heap.size ≤ q
  off : ¬ Foot p v q
  last : Blk wr q 29 #[.int .u64 ((if k = 0 then nil else look M (k - 1)).time : Int), .string (if k = 0 then nil else look M (k - 1)).key]
theorem foot_own {v v' : Value} (h : v'.ownBlock = v.ownBlock) {q : Nat} (hq : ¬ Foot p v q) : ¬ Foot p v' q := by
  rintro (e | e)
  · exact hq (.inl e)
  · exact hq (.inr (e.trans h))
theorem not_lt {y z : It} (h : le z y) : ¬ (y.time < z.time) ∧ (y.time = z.time → Op.bytesLess y.key.toList z.key.toList = false) := by
  unfold le lt at h
  simp only [Bool.or_eq_false_iff, decide_eq_false_iff_not, Bool.and_eq_false_iff, beq_eq_false_iff_ne] at h
  exact ⟨h.1, fun e => h.2.resolve_left (fun h => h e)⟩
/- Behind k pushes. -/
structure S1 (W : World) (p mb : Nat) (l : List It) (k : Nat) (v : Value) (wr : World) : Prop where
  live : Live W wr p v (sorted l k)
  had : Had wr mb k (fun x => (sorted l k).count x)
  low : W.heap.size ≤ mb
set_option maxRecDepth 100000 in
set_option maxHeartbeats 1000000 in
theorem sorts_any {a : Option Addr} {c : Nat} (h : Came W a l) (hl : l.length ≤ 200) :
    Calls Try.prog 4 #[.slice a l.length c] W fun e w' => e = .returned (.bool true) ∧ But (fun _ => False) W w' := by
  have HA := Lib.hid h
  have HU := Lib.hid (up_any W)
  obtain ⟨n, hn⟩ : ∃ n, n = l.length := ⟨_, rfl⟩
  rw [← hn] at hl ⊢
  have HN := Lib.hid hn
  have hmm := @run_makeMap Try.prog
  clear h hn
  go_enter Try.func4, Try.ntmps4
  go_wp2_with fail
  refine HU.out.mono ?_
  rintro e w1 ⟨rfl, hB1⟩
  have HNW := Lib.hid (hnew_any w1)
  have HB1 := Lib.hid hB1
  clear hB1 HU
  go_wp2_with fail
  refine HNW.out.mono ?_
  rintro e w2 ⟨rfl, hM, hB⟩
  have hL := live_new HB1.out hM hB
  have hlt := hM.lt.1
  obtain ⟨p, hp⟩ : ∃ p, p = w1.heap.size := ⟨_, rfl⟩
  rw [← hp] at hL hlt ⊢
  have HS := Lib.hid (show S1 W p w2.heap.size l 0 (.slice none 0 0) (w2.alloc (.map #[] 0)) from ⟨hL.new ((But.refl _ w2).alloc _), had_new w2, hL.but.size⟩)
  obtain ⟨mb, hmb⟩ : ∃ mb, mb = w2.heap.size := ⟨_, rfl⟩
  rw [← hmb] at HS
  have HMB := Lib.hid hmb
  clear hM hB hL hlt hp hmb HNW HB1
  go_wp2_with fail
  rw [← HMB.out]
  go_loopw [6] (fun x wr => ∃ (k : Nat) (v : Value), x = .int .i64 (k : Int) ∧ k ≤ n ∧ S1 W p mb l k v wr) (fun x _ => n - (intOf x).toNat)
  case atStart => exact ⟨0, _, rfl, by omega, HS.out⟩
  case round =>
    obtain ⟨k, v, rfl, hk, hS⟩ := hrel
    have HS := Lib.hid hS
    by_cases hlt : k < n
    · obtain ⟨g, o, ha, c0, c1⟩ := HA.out.cell hS.live.but (i := k) (by have := HN.out; omega)
      have hko : Ok (look l k) := HA.out.ok _ (by have := HN.out; rw [look_get (by omega)]; exact List.getElem_mem _)
      have hP := hpush_any' hS.live.heap (look l k) (by have := HN.out; rw [sorted_length l (by omega)]; omega)
      rw [← sorted_succ (by have := HN.out; omega)] at hP
      have HCL := Lib.hid (fun V (hV : But (fun _ => False) W V) => HA.out.cell hV (i := k) (by have := HN.out; omega))
      have hsc := sorted_succ (l := l) (k := k) (by have := HN.out; omega)
      obtain ⟨x, hx⟩ : ∃ x, x = look l k := ⟨_, rfl⟩
      rw [← hx] at hP c0 c1 hko HCL hsc
      have HAA := Lib.hid ha
      have HP := Lib.hid hP
      have HOK := Lib.hid hko
      have HSC := Lib.hid hsc
      have hkn : (k : Int) < (n : Int) := by omega
      rw [ha]
      clear hS hP ha hx hko hsc
      go_wp2_with fail
      refine HP.out.mono ?_
      rintro e w3 ⟨rfl, v3, hM, hB, hNx⟩
      have hL := HS.out.live.turn hB hM
      have hH := HS.out.had.but hB (HS.out.live.map_off HS.out.had)
      have hH2 : Had w3.drew mb k (fun x => (sorted l k).count x) := hH.but (But.refl (fun _ => False) w3).drew (fun h => h)
      obtain ⟨w4, hu, hH4, hB4⟩ := hH2.put HOK.out (n := (sorted l k).count x + 1) (g := fun y => (sorted l (k + 1)).count y) (by have := List.count_le_length (a := x) (l := sorted l k); rw [sorted_length l (by have := HN.out; omega)] at this; omega) (by omega) (fun y => by rw [HSC.out]; exact count_ins _ _ _)
      have hlk := hH2.look HOK.out
      obtain ⟨cn, hcn⟩ : ∃ cn, cn = (sorted l k).count x := ⟨_, rfl⟩
      rw [← hcn] at hu hlk
      rw [show ((cn + 1 : Nat) : Int) = (cn : Int) + 1 by omega] at hu
      have hcb : cn ≤ 200 := by
        have := List.count_le_length (a := x) (l := sorted l k)
        rw [sorted_length l (by have := HN.out; omega), ← hcn] at this
        omega
      have hwc : IntKind.i64.wrap ((cn : Int) + 1) = (cn : Int) + 1 := by simp [IntKind.wrap, IntKind.signed, IntKind.bits]; omega
      have HST := Lib.hid (show S1 W p mb l (k + 1) v3 w4 from ⟨(hL.new (But.refl (fun _ => False) w3).drew).map_put hH2 HS.out.low hB4, hH4, HS.out.low⟩)
      obtain ⟨g', o', ha', d0, d1⟩ := HCL.out w3.drew (hL.but.drew)
      rw [HAA.out] at ha'
      injection ha' with ha'
      injection ha' with e1 e2
      subst e1 e2
      have HLK := Lib.hid hlk
      have HUU := Lib.hid hu
      have HDD := Lib.hid (And.intro d0 d1)
      clear hM hB hNx hL hH hH2 hH4 hB4 hlk hu d0 d1 c0 c1 HP hcn
      go_wp2_with fail
      refine Late.region_goes (fun V => V = w3.drew) (fun i => i == 12) (by kernel_rfl) ?_ (fun hH => ?_)
      · rfl
      refine Late.Goes.takeT (i := 0) (v := ?_) (by simp only [List.getElem?_toArray, List.getElem?_cons_succ, List.getElem?_cons_zero]; rfl) (by kernel_rfl) (by kernel_rfl) (by kernel_rfl) (by kernel_rfl) (by kernel_rfl) (by exact fun _ _ _ h => h) (Or.inl ⟨by rfl, ?_⟩) hH ?_
      rotate_left
      · (intro wy hSw; (try dsimp only at hSw); subst hSw; have d0 := HDD.out.1; have d1 := HDD.out.2; have lk := HLK.out; go_simp; try (with_reducible rfl))
      try simp only [Act.put, List.setIfInBounds_toArray, List.set_cons_zero, List.set_cons_succ]
      refine Late.Goes.takeT (i := 1) (v := ?_) (by simp only [List.getElem?_toArray, List.getElem?_cons_succ, List.getElem?_cons_zero]; rfl) (by kernel_rfl) (by kernel_rfl) (by kernel_rfl) (by kernel_rfl) (by kernel_rfl) (by exact fun _ _ _ h => h) (Or.inl ⟨by rfl, ?_⟩) hH ?_
      rotate_left
      · (intro wy hSw; (try dsimp only at hSw); subst hSw; have d0 := HDD.out.1; have d1 := HDD.out.2; have lk := HLK.out; go_simp; try (with_reducible rfl))
      try simp only [Act.put, List.setIfInBounds_toArray, List.set_cons_zero, List.set_cons_succ]
      refine Late.Goes.takeT (i := 2) (v := ?_) (by simp only [List.getElem?_toArray, List.getElem?_cons_succ, List.getElem?_cons_zero]; rfl) (by kernel_rfl) (by kernel_rfl) (by kernel_rfl) (by kernel_rfl) (by kernel_rfl) (by exact fun _ _ _ h => h) (Or.inl ⟨by rfl, ?_⟩) hH ?_
      rotate_left
      · (intro wy hSw; (try dsimp only at hSw); subst hSw; have d0 := HDD.out.1; have d1 := HDD.out.2; have lk := HLK.out; go_simp; try (with_reducible rfl))
      try simp only [Act.put, List.setIfInBounds_toArray, List.set_cons_zero, List.set_cons_succ]
      refine Late.Goes.takeT (i := 3) (v := ?_) (by simp only [List.getElem?_toArray, List.getElem?_cons_succ, List.getElem?_cons_zero]; rfl) (by kernel_rfl) (by kernel_rfl) (by kernel_rfl) (by kernel_rfl) (by kernel_rfl) (by exact fun _ _ _ h => h) (Or.inl ⟨by rfl, ?_⟩) hH ?_
      rotate_left
      · (intro wy hSw; (try dsimp only at hSw); subst hSw; have d0 := HDD.out.1; have d1 := HDD.out.2; have lk := HLK.out; go_simp; try (with_reducible rfl))
      try simp only [Act.put, List.setIfInBounds_toArray, List.set_cons_zero, List.set_cons_succ]
      refine Late.Goes.takeT (i := 4) (v := ?_) (by simp only [List.getElem?_toArray, List.getElem?_cons_succ, List.getElem?_cons_zero]; rfl) (by kernel_rfl) (by kernel_rfl) (by kernel_rfl) (by kernel_rfl) (by kernel_rfl) (by exact fun _ _ _ h => h) (Or.inl ⟨by rfl, ?_⟩) hH ?_
      rotate_left
      · (intro wy hSw; (try dsimp only at hSw); subst hSw; have d0 := HDD.out.1; have d1 := HDD.out.2; have lk := HLK.out; go_simp; try (with_reducible rfl))
      try simp only [Act.put, List.setIfInBounds_toArray, List.set_cons_zero, List.set_cons_succ]
      refine Late.Goes.takeT (i := 5) (v := ?_) (by simp only [List.getElem?_toArray, List.getElem?_cons_succ, List.getElem?_cons_zero]; rfl) (by kernel_rfl) (by kernel_rfl) (by kernel_rfl) (by kernel_rfl) (by kernel_rfl) (by exact fun _ _ _ h => h) (Or.inl ⟨by rfl, ?_⟩) hH ?_
      rotate_left
      · (intro wy hSw; (try dsimp only at hSw); subst hSw; have d0 := HDD.out.1; have d1 := HDD.out.2; have lk := HLK.out; go_simp; try (with_reducible rfl))
      try simp only [Act.put, List.setIfInBounds_toArray, List.set_cons_zero, List.set_cons_succ]
      refine Late.Goes.takeT (i := 6) (v := ?_) (by simp only [List.getElem?_toArray, List.getElem?_cons_succ, List.getElem?_cons_zero]; rfl) (by kernel_rfl) (by kernel_rfl) (by kernel_rfl) (by kernel_rfl) (by kernel_rfl) (by exact fun _ _ _ h => h) (Or.inl ⟨by rfl, ?_⟩) hH ?_
      rotate_left
      · (intro wy hSw; (try dsimp only at hSw); subst hSw; have d0 := HDD.out.1; have d1 := HDD.out.2; have lk := HLK.out; go_simp; try (with_reducible rfl))
      try simp only [Act.put, List.setIfInBounds_toArray, List.set_cons_zero, List.set_cons_succ]
      refine Late.Goes.takeT (i := 7) (v := ?_) (by simp only [List.getElem?_toArray, List.getElem?_cons_succ, List.getElem?_cons_zero]; rfl) (by kernel_rfl) (by kernel_rfl) (by kernel_rfl) (by kernel_rfl) (by kernel_rfl) (by exact fun _ _ _ h => h) (Or.inl ⟨by rfl, ?_⟩) hH ?_
      rotate_left
      · (intro wy hSw; (try dsimp only at hSw); subst hSw; have d0 := HDD.out.1; have d1 := HDD.out.2; have lk := HLK.out; go_simp; try (with_reducible rfl))
      try simp only [Act.put, List.setIfInBounds_toArray, List.set_cons_zero, List.set_cons_succ]
      refine Late.Goes.takeT (i := 8) (v := ?_) (by simp only [List.getElem?_toArray, List.getElem?_cons_succ, List.getElem?_cons_zero]; rfl) (by kernel_rfl) (by kernel_rfl) (by kernel_rfl) (by kernel_rfl) (by kernel_rfl) (by exact fun _ _ _ h => h) (Or.inl ⟨by rfl, ?_⟩) hH ?_
      rotate_left
      · (intro wy hSw; (try dsimp only at hSw); subst hSw; have d0 := HDD.out.1; have d1 := HDD.out.2; have lk := HLK.out; go_simp; try (with_reducible rfl))
      try simp only [Act.put, List.setIfInBounds_toArray, List.set_cons_zero, List.set_cons_succ]
      refine Late.Goes.takeT (i := 9) (v := ?_) (by simp only [List.getElem?_toArray, List.getElem?_cons_succ, List.getElem?_cons_zero]; rfl) (by kernel_rfl) (by kernel_rfl) (by kernel_rfl) (by kernel_rfl) (by kernel_rfl) (by exact fun _ _ _ h => h) (Or.inl ⟨by rfl, ?_⟩) hH ?_
      rotate_left
      · (intro wy hSw; (try dsimp only at hSw); subst hSw; have d0 := HDD.out.1; have d1 := HDD.out.2; have lk := HLK.out; go_simp; try (with_reducible rfl))
      try simp only [Act.put, List.setIfInBounds_toArray, List.set_cons_zero, List.set_cons_succ]
      refine Late.Goes.takeT (i := 10) (v := ?_) (by simp only [List.getElem?_toArray, List.getElem?_cons_succ, List.getElem?_cons_zero]; rfl) (by kernel_rfl) (by kernel_rfl) (by kernel_rfl) (by kernel_rfl) (by kernel_rfl) (by exact fun _ _ _ h => h) (Or.inl ⟨by rfl, ?_⟩) hH ?_
      rotate_left
      · (intro wy hSw; (try dsimp only at hSw); subst hSw; have d0 := HDD.out.1; have d1 := HDD.out.2; have lk := HLK.out; go_simp; try (with_reducible rfl))
      try simp only [Act.put, List.setIfInBounds_toArray, List.set_cons_zero, List.set_cons_succ]
      refine Late.Goes.takeT (i := 11) (v := ?_) (by simp only [List.getElem?_toArray, List.getElem?_cons_succ, List.getElem?_cons_zero]; rfl) (by kernel_rfl) (by kernel_rfl) (by kernel_rfl) (by kernel_rfl) (by kernel_rfl) (by exact fun _ _ _ h => h) (Or.inl ⟨by rfl, ?_⟩) hH ?_
      rotate_left
      · (intro wy hSw; (try dsimp only at hSw); subst hSw; have d0 := HDD.out.1; have d1 := HDD.out.2; have lk := HLK.out; go_simp; try (with_reducible rfl))
      try simp only [Act.put, List.setIfInBounds_toArray, List.set_cons_zero, List.set_cons_succ]
      refine Late.Goes.one (i := 12) (by kernel_rfl) (by simp only [List.getElem?_toArray, List.getElem?_cons_succ, List.getElem?_cons_zero]; rfl) (fun K hK => ?_)
      clear hH
      have hu := HUU.out
      go_simp
      refine hK.out _ _ ?_ (fun _ => ?_)
      · exact fun h => by cases h
      clear hK K
      try simp only [Act.put, List.setIfInBounds_toArray, List.set_cons_zero, List.set_cons_succ]
      refine Late.Goes.done (by kernel_rfl) ?_ _
      go_wp2_with fail
      go_roundw
      case rel => exact ⟨k + 1, v3, by go_num, by omega, HST.out⟩
      case measure => simp [intOf]; omega
    · have hkn : k = n := by omega
      subst hkn
      have hS := HS.out
      have hML : (sorted l k).length = k := sorted_length l (by have := HN.out; omega)
      obtain ⟨M, hM⟩ : ∃ M, M = sorted l k := ⟨_, rfl⟩
      have hok : ∀ x ∈ M, Ok x := fun x hx => by
        rw [hM] at hx
        exact HA.out.ok x (List.mem_of_mem_take ((sorted_perm l k (by have := HN.out; omega)).subset hx))
      have hlive := hS.live
      have hhad := hS.had
      rw [← hM] at hlive hhad hML
      have hris : Ris M := hlive.heap.ris
      obtain ⟨w3, hw3⟩ : ∃ w3, w3 = wr.alloc (.cells #[.int .u64 0, .string ⟨#[]⟩] 29) := ⟨_, rfl⟩
      have hb3 : But (fun _ => False) wr w3 := by rw [hw3]; exact (But.refl _ wr).alloc _
      have HST := Lib.hid (show S2 W p mb wr.heap.size k M 0 v w3 from ⟨by rw [List.drop_zero]; exact hlive.new hb3, by rw [List.drop_zero]; exact hhad.but hb3 (fun h => h), hS.low, hlive.but.size, hlive.newer (Nat.le_refl _), by rw [hw3]; exact Blk.new _ _ _⟩)
      have HW3 := Lib.hid hw3
      have HML := Lib.hid hML
      have HOK := Lib.hid hok
      have HRS := Lib.hid hris
      obtain ⟨q, hq⟩ : ∃ q, q = wr.heap.size := ⟨_, rfl⟩
      rw [← hq] at HST
      have HQ := Lib.hid hq
      clear hS hM hok hlive hhad hris hb3 hw3 hML hq HS hlt hk
      go_wp2_with fail
      rw [← HQ.out, ← HW3.out]
      go_loopw [8] (fun x wr => ∃ (j : Nat) (v : Value), x = .int .i64 (j : Int) ∧ j ≤ k ∧ S2 W p mb q k M j v wr) (fun x _ => k - (intOf x).toNat)
      case atStart => exact ⟨0, _, rfl, by omega, HST.out⟩
      case round =>
        obtain ⟨j, v, rfl, hj, hS⟩ := hrel
        have HS := Lib.hid hS
        by_cases hlt : j < k
        · have hjl : j < M.length := by rw [HML.out]; exact hlt
          obtain ⟨y, t, hdr⟩ : ∃ y t, M.drop j = y :: t := ⟨_, _, List.drop_eq_getElem_cons hjl⟩
          obtain ⟨hy, -, hdr1, -⟩ := look_drop hdr
          have hyo : Ok y := by
            rw [← hy, look_get hjl]
            exact HOK.out _ (List.getElem_mem _)
          have hL := hS.live
          have hH := hS.had
          rw [hdr] at hL hH
          have HP := Lib.hid (hpop_yes hL.heap)
          have HL := Lib.hid hL
          have HH := Lib.hid hH
          have HY := Lib.hid hyo
          have HD1 := Lib.hid hdr1
          obtain ⟨z, hz⟩ : ∃ z, z = if j = 0 then nil else look M (j - 1) := ⟨_, rfl⟩
          have hlast := hS.last
          rw [← hz] at hlast
          have HLS := Lib.hid hlast
          have HLE := Lib.hid (show 0 < j → le z y from fun h0 => by
            rw [hz, if_neg (by omega), ← hy]
            have := List.pairwise_iff_getElem.1 HRS.out (j - 1) j (by omega) hjl (by omega)
            rw [look_get hjl, look_get (by omega)]
            exact this)
          have HYJ := Lib.hid hy
          clear hS hL hH hyo hdr hdr1 hlast hz hjl hy
          go_wp2_with fail
          refine HP.out.mono ?_
          rintro e w4 ⟨rfl, v4, hM, hB, hon⟩
          have hL4 := HL.out.turn hB hM
          have hH4 := HH.out.but hB (HL.out.map_off HH.out)
          have hq4 := foot_own hon HS.out.off
          have hls4 := HLS.out.but hB HS.out.off
          have hB5 : But (fun _ => False) w4 (w4.alloc (.cells #[.int .u64 (y.time : Int), .string y.key] 29)) := (But.refl _ w4).alloc _
          obtain ⟨w5, hw5⟩ : ∃ w5, w5 = w4.alloc (.cells #[.int .u64 (y.time : Int), .string y.key] 29) := ⟨_, rfl⟩
          have hX5 : Blk w5 w4.heap.size 29 #[.int .u64 (y.time : Int), .string y.key] := by rw [hw5]; exact Blk.new _ _ _
          rw [← hw5] at hB5
          have hL5 := hL4.new hB5
          have hH5 := hH4.but hB5 (fun h => h)
          have hls5 := hls4.but hB5 (fun h => h)
          have hcy : 1 ≤ (y :: t).count y := by simp
          have hlk := hH5.look HY.out
          have hct : (y :: t).count y ≤ 201 := by
            have h1 := List.count_le_length (a := y) (l := y :: t)
            have h2 := HL.out.heap.few
            have h3 := congrArg List.length HD1.out
            rw [List.length_drop] at h3
            have h4 := HML.out
            rw [List.length_cons] at h1
            omega
          have hH6 : Had w5.drew mb (k + j) (fun x => (y :: t).count x) := hH5.but (But.refl (fun _ => False) w5).drew (fun h => h)
          obtain ⟨w6, hu, hH7, hB7⟩ := hH6.put HY.out (n := (y :: t).count y - 1) (g := fun x => (M.drop (j + 1)).count x) (by omega) (by omega) (fun x => by rw [HD1.out]; exact count_cons_ _ _ _)
          have hlk6 := hH6.look HY.out
          obtain ⟨cn, hcn⟩ : ∃ cn, cn = (y :: t).count y := ⟨_, rfl⟩
          rw [← hcn] at hu hlk hlk6 hcy hct
          rw [show ((cn - 1 : Nat) : Int) = (cn : Int) - 1 by omega] at hu
          have hcz : ((cn : Int) == 0) = false := beq_eq_false_iff_ne.2 (by omega)
          have hwc : IntKind.i64.wrap ((cn : Int) - 1) = (cn : Int) - 1 := by simp [IntKind.wrap, IntKind.signed, IntKind.bits]; omega
          have hmo := hL5.map_off hH5
          have hqx : q ≠ w4.heap.size := by have := hls4.lt; omega
          have hL6 := (hL5.new (But.refl (fun _ => False) w5).drew).map_put hH6 HS.out.low hB7
          have hX6 := hX5.but ((But.refl (fun j => j = mb) w5).drew.trans' hB7) (fun e => hH5.ne hX5 e.symm)
          have hls6 := hls5.but ((But.refl (fun j => j = mb) w5).drew.trans' hB7) (fun e => hH5.ne hls5 e.symm)
          have hbs : But (fun i => i = q) w6 (w6.setCells q 0 (icells y)) := but_setCells _ _ _ _
          have hls7 : Blk (w6.setCells q 0 (icells y)) q 29 #[.int .u64 (y.time : Int), .string y.key] := blk_setCells (A := []) (B := icells z) (C := []) (vs := icells y) hls6 rfl
          have HT := Lib.hid (show w6.there q 0 2 from fun i hi => ⟨by
            rw [hls6.cell]
            rcases i with _ | _ | i
            · rfl
            · rfl
            · omega, hls6.frozen _⟩)
          have HST := Lib.hid (show S2 W p mb q k M (j + 1) v4 (w6.setCells q 0 (icells y)) from ⟨by
              rw [HD1.out]
              exact hL6.store hq4 HS.out.qlow hbs, by
              rw [← Nat.add_assoc]
              exact hH7.but hbs (fun e => hH7.ne hls6 e), HS.out.low, HS.out.qlow, hq4, by
              rw [if_neg (by omega), show j + 1 - 1 = j by omega, HYJ.out]
              exact hls7⟩)
          have x0 : w5.cell? ⟨w4.heap.size, 0, none⟩ = some (.int .u64 (y.time : Int)) := hX5.cell 0
          have x1 : w5.cell? ⟨w4.heap.size, 1, none⟩ = some (.string y.key) := hX5.cell 1
          have q0 : w5.cell? ⟨q, 0, none⟩ = some (.int .u64 (z.time : Int)) := hls5.cell 0
          have q1 : w5.cell? ⟨q, 1, none⟩ = some (.string z.key) := hls5.cell 1
          have HX56 := Lib.hid (And.intro hX5 hX6)
          have HLK := Lib.hid hlk6
          have HUU := Lib.hid hu
          have HW5 := Lib.hid hw5
          have hjp : (0 < (j : Int)) = (0 < j) := by simp
          rw [hw5] at x0 x1 q0 q1 hlk
          clear hM hB hon hL4 hH4 hq4 hls4 hB5 hX5 hL5 hH5 hls5 hH6 hH7 hB7 hu hlk6 hmo hL6 hX6 hls6 hbs hls7 HP hw5 hcn hcy hjp
          by_cases hj0 : j = 0
          · have hnj : ¬ (0 < j) := by omega
            clear hj0
            go_wp2_with fail
            rw [← HW5.out]
            refine Late.region_goes (fun V => V = w5.drew) (fun i => i == 6) (by kernel_rfl) ?_ (fun hH => ?_)
            · rfl
            refine Late.Goes.takeT (i := 0) (v := ?_) (by simp only [List.getElem?_toArray, List.getElem?_cons_succ, List.getElem?_cons_zero]; rfl) (by kernel_rfl) (by kernel_rfl) (by kernel_rfl) (by kernel_rfl) (by kernel_rfl) (by exact fun _ _ _ h => h) (Or.inl ⟨by rfl, ?_⟩) hH ?_
            rotate_left
            · (intro wy hSw; (try dsimp only at hSw); subst hSw; have x0 : w5.drew.cell? ⟨w4.heap.size, 0, none⟩ = some (.int .u64 (y.time : Int)) := HX56.out.1.cell 0; have x1 : w5.drew.cell? ⟨w4.heap.size, 1, none⟩ = some (.string y.key) := HX56.out.1.cell 1; have lk := HLK.out; go_simp; try (with_reducible rfl))
            try simp only [Act.put, List.setIfInBounds_toArray, List.set_cons_zero, List.set_cons_succ]
            refine Late.Goes.takeT (i := 1) (v := ?_) (by simp only [List.getElem?_toArray, List.getElem?_cons_succ, List.getElem?_cons_zero]; rfl) (by kernel_rfl) (by kernel_rfl) (by kernel_rfl) (by kernel_rfl) (by kernel_rfl) (by exact fun _ _ _ h => h) (Or.inl ⟨by rfl, ?_⟩) hH ?_
            rotate_left
            · (intro wy hSw; (try dsimp only at hSw); subst hSw; have x0 : w5.drew.cell? ⟨w4.heap.size, 0, none⟩ = some (.int .u64 (y.time : Int)) := HX56.out.1.cell 0; have x1 : w5.drew.cell? ⟨w4.heap.size, 1, none⟩ = some (.string y.key) := HX56.out.1.cell 1; have lk := HLK.out; go_simp; try (with_reducible rfl))
            try simp only [Act.put, List.setIfInBounds_toArray, List.set_cons_zero, List.set_cons_succ]
            refine Late.Goes.takeT (i := 2) (v := ?_) (by simp only [List.getElem?_toArray, List.getElem?_cons_succ, List.getElem?_cons_zero]; rfl) (by kernel_rfl) (by kernel_rfl) (by kernel_rfl) (by kernel_rfl) (by kernel_rfl) (by exact fun _ _ _ h => h) (Or.inl ⟨by rfl, ?_⟩) hH ?_
            rotate_left
            · (intro wy hSw; (try dsimp only at hSw); subst hSw; have x0 : w5.drew.cell? ⟨w4.heap.size, 0, none⟩ = some (.int .u64 (y.time : Int)) := HX56.out.1.cell 0; have x1 : w5.drew.cell? ⟨w4.heap.size, 1, none⟩ = some (.string y.key) := HX56.out.1.cell 1; have lk := HLK.out; go_simp; try (with_reducible rfl))
            try simp only [Act.put, List.setIfInBounds_toArray, List.set_cons_zero, List.set_cons_succ]
            refine Late.Goes.takeT (i := 3) (v := ?_) (by simp only [List.getElem?_toArray, List.getElem?_cons_succ, List.getElem?_cons_zero]; rfl) (by kernel_rfl) (by kernel_rfl) (by kernel_rfl) (by kernel_rfl) (by kernel_rfl) (by exact fun _ _ _ h => h) (Or.inl ⟨by rfl, ?_⟩) hH ?_
            rotate_left
            · (intro wy hSw; (try dsimp only at hSw); subst hSw; have x0 : w5.drew.cell? ⟨w4.heap.size, 0, none⟩ = some (.int .u64 (y.time : Int)) := HX56.out.1.cell 0; have x1 : w5.drew.cell? ⟨w4.heap.size, 1, none⟩ = some (.string y.key) := HX56.out.1.cell 1; have lk := HLK.out; go_simp; try (with_reducible rfl))
            try simp only [Act.put, List.setIfInBounds_toArray, List.set_cons_zero, List.set_cons_succ]
            refine Late.Goes.takeT (i := 4) (v := ?_) (by simp only [List.getElem?_toArray, List.getElem?_cons_succ, List.getElem?_cons_zero]; rfl) (by kernel_rfl) (by kernel_rfl) (by kernel_rfl) (by kernel_rfl) (by kernel_rfl) (by exact fun _ _ _ h => h) (Or.inl ⟨by rfl, ?_⟩) hH ?_
            rotate_left
            · (intro wy hSw; (try dsimp only at hSw); subst hSw; have x0 : w5.drew.cell? ⟨w4.heap.size, 0, none⟩ = some (.int .u64 (y.time : Int)) := HX56.out.1.cell 0; have x1 : w5.drew.cell? ⟨w4.heap.size, 1, none⟩ = some (.string y.key) := HX56.out.1.cell 1; have lk := HLK.out; go_simp; try (with_reducible rfl))
            try simp only [Act.put, List.setIfInBounds_toArray, List.set_cons_zero, List.set_cons_succ]
            refine Late.Goes.takeT (i := 5) (v := ?_) (by simp only [List.getElem?_toArray, List.getElem?_cons_succ, List.getElem?_cons_zero]; rfl) (by kernel_rfl) (by kernel_rfl) (by kernel_rfl) (by kernel_rfl) (by kernel_rfl) (by exact fun _ _ _ h => h) (Or.inl ⟨by rfl, ?_⟩) hH ?_
            rotate_left
            · (intro wy hSw; (try dsimp only at hSw); subst hSw; have x0 : w5.drew.cell? ⟨w4.heap.size, 0, none⟩ = some (.int .u64 (y.time : Int)) := HX56.out.1.cell 0; have x1 : w5.drew.cell? ⟨w4.heap.size, 1, none⟩ = some (.string y.key) := HX56.out.1.cell 1; have lk := HLK.out; go_simp; try (with_reducible rfl))
            try simp only [Act.put, List.setIfInBounds_toArray, List.set_cons_zero, List.set_cons_succ]
            refine Late.Goes.one (i := 6) (by kernel_rfl) (by simp only [List.getElem?_toArray, List.getElem?_cons_succ, List.getElem?_cons_zero]; rfl) (fun K hK => ?_)
            clear hH
            have hu := HUU.out
            go_simp
            refine hK.out _ _ ?_ (fun _ => ?_)
            · exact fun h => by cases h
            clear hK K
            try simp only [Act.put, List.setIfInBounds_toArray, List.set_cons_zero, List.set_cons_succ]
            refine Late.Goes.done (by kernel_rfl) ?_ _
            have x6 : w6.cell? ⟨w4.heap.size, 0, none⟩ = some (.int .u64 (y.time : Int)) := HX56.out.2.cell 0
            have x7 : w6.cell? ⟨w4.heap.size, 1, none⟩ = some (.string y.key) := HX56.out.2.cell 1
            clear hu
            go_wp2_with (refine wpList_store_mid rfl 29 _ _ rfl q 0 (icells y).toArray rfl rfl (by simpa [icells_length] using HT.out) (by simp only [List.size_toArray, icells_length]; exact item_size) (all_oneCell_toArray (icells_one y)) ?_
                         change wpList _ _ _ _ _ (w6.setCells q 0 (icells y)))
            clear x6 x7
            go_roundw
            case rel => exact ⟨j + 1, v4, by go_num, by omega, HST.out⟩
            case measure => simp [intOf]; omega
          · have hpj : 0 < j := by omega
            obtain ⟨t1, t2⟩ := not_lt (HLE.out hpj)
            by_cases ht : y.time = z.time
            · have hb := t2 ht
              have he : ((y.time : Int) == (z.time : Int)) = true := by rw [ht]; exact beq_self_eq_true _
              clear ht t2 hj0
              go_wp2_with fail
              rw [← HW5.out]
              refine Late.region_goes (fun V => V = w5.drew) (fun i => i == 6) (by kernel_rfl) ?_ (fun hH => ?_)
              · rfl
              refine Late.Goes.takeT (i := 0) (v := ?_) (by simp only [List.getElem?_toArray, List.getElem?_cons_succ, List.getElem?_cons_zero]; rfl) (by kernel_rfl) (by kernel_rfl) (by kernel_rfl) (by kernel_rfl) (by kernel_rfl) (by exact fun _ _ _ h => h) (Or.inl ⟨by rfl, ?_⟩) hH ?_
              rotate_left
              · (intro wy hSw; (try dsimp only at hSw); subst hSw; have x0 : w5.drew.cell? ⟨w4.heap.size, 0, none⟩ = some (.int .u64 (y.time : Int)) := HX56.out.1.cell 0; have x1 : w5.drew.cell? ⟨w4.heap.size, 1, none⟩ = some (.string y.key) := HX56.out.1.cell 1; have lk := HLK.out; go_simp; try (with_reducible rfl))
              try simp only [Act.put, List.setIfInBounds_toArray, List.set_cons_zero, List.set_cons_succ]
              refine Late.Goes.takeT (i := 1) (v := ?_) (by simp only [List.getElem?_toArray, List.getElem?_cons_succ, List.getElem?_cons_zero]; rfl) (by kernel_rfl) (by kernel_rfl) (by kernel_rfl) (by kernel_rfl) (by kernel_rfl) (by exact fun _ _ _ h => h) (Or.inl ⟨by rfl, ?_⟩) hH ?_
              rotate_left
              · (intro wy hSw; (try dsimp only at hSw); subst hSw; have x0 : w5.drew.cell? ⟨w4.heap.size, 0, none⟩ = some (.int .u64 (y.time : Int)) := HX56.out.1.cell 0; have x1 : w5.drew.cell? ⟨w4.heap.size, 1, none⟩ = some (.string y.key) := HX56.out.1.cell 1; have lk := HLK.out; go_simp; try (with_reducible rfl))
              try simp only [Act.put, List.setIfInBounds_toArray, List.set_cons_zero, List.set_cons_succ]
              refine Late.Goes.takeT (i := 2) (v := ?_) (by simp only [List.getElem?_toArray, List.getElem?_cons_succ, List.getElem?_cons_zero]; rfl) (by kernel_rfl) (by kernel_rfl) (by kernel_rfl) (by kernel_rfl) (by kernel_rfl) (by exact fun _ _ _ h => h) (Or.inl ⟨by rfl, ?_⟩) hH ?_
              rotate_left
              · (intro wy hSw; (try dsimp only at hSw); subst hSw; have x0 : w5.drew.cell? ⟨w4.heap.size, 0, none⟩ = some (.int .u64 (y.time : Int)) := HX56.out.1.cell 0; have x1 : w5.drew.cell? ⟨w4.heap.size, 1, none⟩ = some (.string y.key) := HX56.out.1.cell 1; have lk := HLK.out; go_simp; try (with_reducible rfl))
              try simp only [Act.put, List.setIfInBounds_toArray, List.set_cons_zero, List.set_cons_succ]
              refine Late.Goes.takeT (i := 3) (v := ?_) (by simp only [List.getElem?_toArray, List.getElem?_cons_succ, List.getElem?_cons_zero]; rfl) (by kernel_rfl) (by kernel_rfl) (by kernel_rfl) (by kernel_rfl) (by kernel_rfl) (by exact fun _ _ _ h => h) (Or.inl ⟨by rfl, ?_⟩) hH ?_
              rotate_left
              · (intro wy hSw; (try dsimp only at hSw); subst hSw; have x0 : w5.drew.cell? ⟨w4.heap.size, 0, none⟩ = some (.int .u64 (y.time : Int)) := HX56.out.1.cell 0; have x1 : w5.drew.cell? ⟨w4.heap.size, 1, none⟩ = some (.string y.key) := HX56.out.1.cell 1; have lk := HLK.out; go_simp; try (with_reducible rfl))
              try simp only [Act.put, List.setIfInBounds_toArray, List.set_cons_zero, List.set_cons_succ]
              refine Late.Goes.takeT (i := 4) (v := ?_) (by simp only [List.getElem?_toArray, List.getElem?_cons_succ, List.getElem?_cons_zero]; rfl) (by kernel_rfl) (by kernel_rfl) (by kernel_rfl) (by kernel_rfl) (by kernel_rfl) (by exact fun _ _ _ h => h) (Or.inl ⟨by rfl, ?_⟩) hH ?_
              rotate_left
              · (intro wy hSw; (try dsimp only at hSw); subst hSw; have x0 : w5.drew.cell? ⟨w4.heap.size, 0, none⟩ = some (.int .u64 (y.time : Int)) := HX56.out.1.cell 0; have x1 : w5.drew.cell? ⟨w4.heap.size, 1, none⟩ = some (.string y.key) := HX56.out.1.cell 1; have lk := HLK.out; go_simp; try (with_reducible rfl))
              try simp only [Act.put, List.setIfInBounds_toArray, List.set_cons_zero, List.set_cons_succ]
              refine Late.Goes.takeT (i := 5) (v := ?_) (by simp only [List.getElem?_toArray, List.getElem?_cons_succ, List.getElem?_cons_zero]; rfl) (by kernel_rfl) (by kernel_rfl) (by kernel_rfl) (by kernel_rfl) (by kernel_rfl) (by exact fun _ _ _ h => h) (Or.inl ⟨by rfl, ?_⟩) hH ?_
              rotate_left
              · (intro wy hSw; (try dsimp only at hSw); subst hSw; have x0 : w5.drew.cell? ⟨w4.heap.size, 0, none⟩ = some (.int .u64 (y.time : Int)) := HX56.out.1.cell 0; have x1 : w5.drew.cell? ⟨w4.heap.size, 1, none⟩ = some (.string y.key) := HX56.out.1.cell 1; have lk := HLK.out; go_simp; try (with_reducible rfl))
              try simp only [Act.put, List.setIfInBounds_toArray, List.set_cons_zero, List.set_cons_succ]
              refine Late.Goes.one (i := 6) (by kernel_rfl) (by simp only [List.getElem?_toArray, List.getElem?_cons_succ, List.getElem?_cons_zero]; rfl) (fun K hK => ?_)
              clear hH
              have hu := HUU.out
              go_simp
              refine hK.out _ _ ?_ (fun _ => ?_)
              · exact fun h => by cases h
              clear hK K
              try simp only [Act.put, List.setIfInBounds_toArray, List.set_cons_zero, List.set_cons_succ]
              refine Late.Goes.done (by kernel_rfl) ?_ _
              have x6 : w6.cell? ⟨w4.heap.size, 0, none⟩ = some (.int .u64 (y.time : Int)) := HX56.out.2.cell 0
              have x7 : w6.cell? ⟨w4.heap.size, 1, none⟩ = some (.string y.key) := HX56.out.2.cell 1
              clear hu
              go_wp2_with (refine wpList_store_mid rfl 29 _ _ rfl q 0 (icells y).toArray rfl rfl (by simpa [icells_length] using HT.out) (by simp only [List.size_toArray, icells_length]; exact item_size) (all_oneCell_toArray (icells_one y)) ?_
                           change wpList _ _ _ _ _ (w6.setCells q 0 (icells y)))
              clear x6 x7
              go_roundw
              case rel => exact ⟨j + 1, v4, by go_num, by omega, HST.out⟩
              case measure => simp [intOf]; omega
            · have he : ((y.time : Int) == (z.time : Int)) = false := beq_eq_false_iff_ne.2 (by omega)
              clear ht t2 hj0
              go_wp2_with fail
              rw [← HW5.out]
              refine Late.region_goes (fun V => V = w5.drew) (fun i => i == 6) (by kernel_rfl) ?_ (fun hH => ?_)
              · rfl
              refine Late.Goes.takeT (i := 0) (v := ?_) (by simp only [List.getElem?_toArray, List.getElem?_cons_succ, List.getElem?_cons_zero]; rfl) (by kernel_rfl) (by kernel_rfl) (by kernel_rfl) (by kernel_rfl) (by kernel_rfl) (by exact fun _ _ _ h => h) (Or.inl ⟨by rfl, ?_⟩) hH ?_
              rotate_left
              · (intro wy hSw; (try dsimp only at hSw); subst hSw; have x0 : w5.drew.cell? ⟨w4.heap.size, 0, none⟩ = some (.int .u64 (y.time : Int)) := HX56.out.1.cell 0; have x1 : w5.drew.cell? ⟨w4.heap.size, 1, none⟩ = some (.string y.key) := HX56.out.1.cell 1; have lk := HLK.out; go_simp; try (with_reducible rfl))
              try simp only [Act.put, List.setIfInBounds_toArray, List.set_cons_zero, List.set_cons_succ]
              refine Late.Goes.takeT (i := 1) (v := ?_) (by simp only [List.getElem?_toArray, List.getElem?_cons_succ, List.getElem?_cons_zero]; rfl) (by kernel_rfl) (by kernel_rfl) (by kernel_rfl) (by kernel_rfl) (by kernel_rfl) (by exact fun _ _ _ h => h) (Or.inl ⟨by rfl, ?_⟩) hH ?_
              rotate_left
              · (intro wy hSw; (try dsimp only at hSw); subst hSw; have x0 : w5.drew.cell? ⟨w4.heap.size, 0, none⟩ = some (.int .u64 (y.time : Int)) := HX56.out.1.cell 0; have x1 : w5.drew.cell? ⟨w4.heap.size, 1, none⟩ = some (.string y.key) := HX56.out.1.cell 1; have lk := HLK.out; go_simp; try (with_reducible rfl))
              try simp only [Act.put, List.setIfInBounds_toArray, List.set_cons_zero, List.set_cons_succ]
              refine Late.Goes.takeT (i := 2) (v := ?_) (by simp only [List.getElem?_toArray, List.getElem?_cons_succ, List.getElem?_cons_zero]; rfl) (by kernel_rfl) (by kernel_rfl) (by kernel_rfl) (by kernel_rfl) (by kernel_rfl) (by exact fun _ _ _ h => h) (Or.inl ⟨by rfl, ?_⟩) hH ?_
              rotate_left
              · (intro wy hSw; (try dsimp only at hSw); subst hSw; have x0 : w5.drew.cell? ⟨w4.heap.size, 0, none⟩ = some (.int .u64 (y.time : Int)) := HX56.out.1.cell 0; have x1 : w5.drew.cell? ⟨w4.heap.size, 1, none⟩ = some (.string y.key) := HX56.out.1.cell 1; have lk := HLK.out; go_simp; try (with_reducible rfl))
              try simp only [Act.put, List.setIfInBounds_toArray, List.set_cons_zero, List.set_cons_succ]
              refine Late.Goes.takeT (i := 3) (v := ?_) (by simp only [List.getElem?_toArray, List.getElem?_cons_succ, List.getElem?_cons_zero]; rfl) (by kernel_rfl) (by kernel_rfl) (by kernel_rfl) (by kernel_rfl) (by kernel_rfl) (by exact fun _ _ _ h => h) (Or.inl ⟨by rfl, ?_⟩) hH ?_
              rotate_left
              · (intro wy hSw; (try dsimp only at hSw); subst hSw; have x0 : w5.drew.cell? ⟨w4.heap.size, 0, none⟩ = some (.int .u64 (y.time : Int)) := HX56.out.1.cell 0; have x1 : w5.drew.cell? ⟨w4.heap.size, 1, none⟩ = some (.string y.key) := HX56.out.1.cell 1; have lk := HLK.out; go_simp; try (with_reducible rfl))
              try simp only [Act.put, List.setIfInBounds_toArray, List.set_cons_zero, List.set_cons_succ]
              refine Late.Goes.takeT (i := 4) (v := ?_) (by simp only [List.getElem?_toArray, List.getElem?_cons_succ, List.getElem?_cons_zero]; rfl) (by kernel_rfl) (by kernel_rfl) (by kernel_rfl) (by kernel_rfl) (by kernel_rfl) (by exact fun _ _ _ h => h) (Or.inl ⟨by rfl, ?_⟩) hH ?_
              rotate_left
              · (intro wy hSw; (try dsimp only at hSw); subst hSw; have x0 : w5.drew.cell? ⟨w4.heap.size, 0, none⟩ = some (.int .u64 (y.time : Int)) := HX56.out.1.cell 0; have x1 : w5.drew.cell? ⟨w4.heap.size, 1, none⟩ = some (.string y.key) := HX56.out.1.cell 1; have lk := HLK.out; go_simp; try (with_reducible rfl))
              try simp only [Act.put, List.setIfInBounds_toArray, List.set_cons_zero, List.set_cons_succ]
              refine Late.Goes.takeT (i := 5) (v := ?_) (by simp only [List.getElem?_toArray, List.getElem?_cons_succ, List.getElem?_cons_zero]; rfl) (by kernel_rfl) (by kernel_rfl) (by kernel_rfl) (by kernel_rfl) (by kernel_rfl) (by exact fun _ _ _ h => h) (Or.inl ⟨by rfl, ?_⟩) hH ?_
              rotate_left
              · (intro wy hSw; (try dsimp only at hSw); subst hSw; have x0 : w5.drew.cell? ⟨w4.heap.size, 0, none⟩ = some (.int .u64 (y.time : Int)) := HX56.out.1.cell 0; have x1 : w5.drew.cell? ⟨w4.heap.size, 1, none⟩ = some (.string y.key) := HX56.out.1.cell 1; have lk := HLK.out; go_simp; try (with_reducible rfl))
              try simp only [Act.put, List.setIfInBounds_toArray, List.set_cons_zero, List.set_cons_succ]
              refine Late.Goes.one (i := 6) (by kernel_rfl) (by simp only [List.getElem?_toArray, List.getElem?_cons_succ, List.getElem?_cons_zero]; rfl) (fun K hK => ?_)
              clear hH
              have hu := HUU.out
              go_simp
              refine hK.out _ _ ?_ (fun _ => ?_)
              · exact fun h => by cases h
              clear hK K
              try simp only [Act.put, List.setIfInBounds_toArray, List.set_cons_zero, List.set_cons_succ]
              refine Late.Goes.done (by kernel_rfl) ?_ _
              have x6 : w6.cell? ⟨w4.heap.size, 0, none⟩ = some (.int .u64 (y.time : Int)) := HX56.out.2.cell 0
              have x7 : w6.cell? ⟨w4.heap.size, 1, none⟩ = some (.string y.key) := HX56.out.2.cell 1
              clear hu
              go_wp2_with (refine wpList_store_mid rfl 29 _ _ rfl q 0 (icells y).toArray rfl rfl (by simpa [icells_length] using HT.out) (by simp only [List.size_toArray, icells_length]; exact item_size) (all_oneCell_toArray (icells_one y)) ?_
                           change wpList _ _ _ _ _ (w6.setCells q 0 (icells y)))
              clear x6 x7
              go_roundw
              case rel => exact ⟨j + 1, v4, by go_num, by omega, HST.out⟩
              case measure => simp [intOf]; omega
        · have hjk : j = k := by omega
          subst hjk
          have hL := hS.live
          rw [List.drop_eq_nil_of_le (by rw [HML.out]; omega)] at hL
          have HP := Lib.hid (hpop_no hL.heap)
          have HL := Lib.hid hL
          clear hS hL
          go_wp2_with fail
          refine HP.out.mono ?_
          rintro e w4 ⟨rfl, hB⟩
          have HB := Lib.hid (HL.out.new hB).but
          clear hB HP
          go_wp2_with fail
          go_ret
          exact ⟨rfl, HB.out.alloc _⟩
set_option maxRecDepth 100000 in
set_option maxHeartbeats 1000000 in
theorem sorts_away (a : Option Addr) (n c : Nat) (hl : 200 < n) (hn : n ≤ 9223372036854775807) (W : World) :
    Calls Try.prog 4 #[.slice a n c] W fun e w' => e = .returned (.bool true) ∧ But (fun _ => False) W w' := by
  have HU := Lib.hid (up_any W)
  go_enter Try.func4, Try.ntmps4
  go_wp2_with fail
  refine HU.out.mono ?_
  rintro e w1 ⟨rfl, hB1⟩
  have HNW := Lib.hid (hnew_any w1)
  have HB1 := Lib.hid hB1
  clear hB1 HU
  go_wp2_with fail
  refine HNW.out.mono ?_
  rintro e w2 ⟨rfl, hM, hB⟩
  have HB := Lib.hid (HB1.out.trans' hB)
  clear hM hB HNW HB1
  have hl2 : (200 : Int) < (n : Int) := by omega
  go_wp2_with fail
  go_ret
  exact ⟨rfl, HB.out⟩
end
end Go.Proofs.Ytdkknjgjogekiaa.Exp
