/- Entries by rising keys: the program's sort. -/
import Derived.Test.YtabclecfamkanaaDoorKeyItoa
import Derived.Test.YtabclecfamkanaaDoorKeySortLib
namespace Go.Proofs.YtabclecfamkanaaDoor.Key
open Go.Proofs.YtabclecfamkanaaDoor.Mem Go.Proofs.YtabclecfamkanaaDoor.Fnv
open Go.ChangeShapes Go.WideShapes Go.ChangeAt Go.RowKit Go.Proofs Go.Shelf
set_option linter.unusedVariables false
set_option linter.unusedSimpArgs false
instance : Inhabited Ent := ⟨zero⟩
def ecl (l : List Ent) : List Value := l.flatMap ecells
theorem ecl_length (l : List Ent) : (ecl l).length = l.length * 7 := flat_length ecells_length l
theorem ecl_snoc (l : List Ent) (e : Ent) : ecl (l ++ [e]) = ecl l ++ ecells e := by unfold ecl; rw [List.flatMap_append]; simp
/- A slice that shows entries. -/
structure Ents (w : World) (a : Option Addr) (l : List Ent) : Prop where
  at_ : ∃ g, a = some ⟨g, 0, none⟩ ∧ g < w.heap.size ∧ ∀ i (h : i < l.length) j, j < 7 → w.cell? ⟨g, i * 7 + j, none⟩ = (ecells l[i])[j]?
/- Texts by their bytes. -/
def cmp (a b : List UInt8) : Int := Lib.compareBytes a b
theorem cmp_self : ∀ a, cmp a a = 0
  | [] => rfl
  | x :: a => by
    have h := cmp_self a
    unfold cmp at h ⊢
    rw [Lib.compareBytes, if_neg (by simp), if_neg (by simp)]
    exact h
theorem cmp_anti : ∀ a b, cmp b a = - cmp a b
  | [], [] => rfl
  | [], _ :: _ => rfl
  | _ :: _, [] => rfl
  | x :: a, y :: b => by
    have h := cmp_anti a b
    unfold cmp at h ⊢
    rw [Lib.compareBytes, Lib.compareBytes]
    simp only [UInt8.lt_iff_toNat_lt]
    by_cases h1 : x.toNat < y.toNat
    · rw [if_neg (by omega), if_pos h1, if_pos h1]
      decide
    · by_cases h2 : y.toNat < x.toNat
      · rw [if_pos h2, if_neg h1, if_pos h2]
      · rw [if_neg h2, if_neg h1, if_neg h1, if_neg h2]; exact h
theorem cmp_trans : ∀ a b c, cmp a b ≤ 0 → cmp b c ≤ 0 → cmp a c ≤ 0 ∧ (cmp a b < 0 ∨ cmp b c < 0 → cmp a c < 0)
  | [], [], [], _, _ => ⟨by decide, fun h => by revert h; decide⟩
  | [], _, _ :: _, _, _ => ⟨by unfold cmp; rw [Lib.compareBytes]; decide, fun _ => by unfold cmp; rw [Lib.compareBytes]; decide⟩
  | [], _ :: _, [], _, h => by unfold cmp at h; rw [Lib.compareBytes] at h; omega
  | _ :: _, [], _, h, _ => by unfold cmp at h; rw [Lib.compareBytes] at h; omega
  | _ :: _, _ :: _, [], _, h => by unfold cmp at h; rw [Lib.compareBytes] at h; omega
  | x :: a, y :: b, z :: c, h1, h2 => by
    have ih := cmp_trans a b c
    unfold cmp at h1 h2 ih ⊢
    rw [Lib.compareBytes] at h1 h2
    rw [Lib.compareBytes, Lib.compareBytes, Lib.compareBytes]
    simp only [UInt8.lt_iff_toNat_lt] at *
    by_cases e1 : x.toNat < y.toNat
    · by_cases e2 : y.toNat < z.toNat
      · simp only [if_pos e1, if_pos e2, if_pos (show x.toNat < z.toNat by omega)]; omega
      · by_cases e3 : z.toNat < y.toNat
        · rw [if_neg e2, if_pos e3] at h2; omega
        · simp only [if_pos (show x.toNat < z.toNat by omega)]; omega
    · by_cases e2 : y.toNat < x.toNat
      · rw [if_neg e1, if_pos e2] at h1; omega
      · rw [if_neg e1, if_neg e2] at h1
        by_cases e3 : y.toNat < z.toNat
        · simp only [if_pos (show x.toNat < z.toNat by omega)]; omega
        · by_cases e4 : z.toNat < y.toNat
          · rw [if_neg e3, if_pos e4] at h2; omega
          · rw [if_neg e3, if_neg e4] at h2
            simp only [if_neg e1, if_neg e2, if_neg e3, if_neg e4, if_neg (show ¬ x.toNat < z.toNat by omega), if_neg (show ¬ z.toNat < x.toNat by omega)]
            exact ih h1 h2
theorem cmp_eq : ∀ a b, cmp a b = 0 → a = b
  | [], [], _ => rfl
  | [], _ :: _, h => by unfold cmp at h; rw [Lib.compareBytes] at h; omega
  | _ :: _, [], h => by unfold cmp at h; rw [Lib.compareBytes] at h; omega
  | x :: a, y :: b, h => by
    have ih := cmp_eq a b
    unfold cmp at h ih
    rw [Lib.compareBytes] at h
    simp only [UInt8.lt_iff_toNat_lt] at h
    by_cases e1 : x.toNat < y.toNat
    · rw [if_pos e1] at h; omega
    · by_cases e2 : y.toNat < x.toNat
      · rw [if_neg e1, if_pos e2] at h; omega
      · rw [if_neg e1, if_neg e2] at h
        rw [ih h, show x = y from UInt8.toNat_inj.1 (by omega)]
def kc (x y : Ent) : Int := cmp x.key.data.toList y.key.data.toList
def rises (l : List Ent) : Prop := l.Pairwise fun x y => ¬ kc y x < 0
theorem kc_swo : Go.Sort.SWO (ltOf kc) where
  irrefl x := by unfold ltOf kc; rw [cmp_self]; rfl
  trans x y z h1 h2 := by
    simp only [ltOf, decide_eq_true_eq] at *
    exact (cmp_trans _ _ _ (Int.le_of_lt h1) (Int.le_of_lt h2)).2 (.inl h1)
  ntrans x y z h1 h2 := by
    simp only [ltOf, decide_eq_false_iff_not] at *
    unfold kc at *
    have a1 := cmp_anti x.key.data.toList y.key.data.toList
    have a2 := cmp_anti y.key.data.toList z.key.data.toList
    have a3 := cmp_anti x.key.data.toList z.key.data.toList
    have := (cmp_trans z.key.data.toList y.key.data.toList x.key.data.toList (by omega) (by omega)).1
    omega
set_option maxRecDepth 100000 in
set_option maxHeartbeats 1000000 in
theorem closure_cmp (x y : Ent) (W : World) : Calls Tryd.prog 29 #[.agg (ecells x).toArray, .agg (ecells y).toArray] W fun e w' => e = .returned (.int .i64 (kc x y)) ∧ ∃ q os', w' = Go.Sort.grow (W.drewN q) os' := by
  have hcon := fun W' => Tryd.strings_Compare x.key y.key W'
  change ∀ W', Calls Tryd.prog 30 _ _ (fun e w' => e = .returned (.int .i64 (kc x y)) ∧ w' = W') at hcon
  have HC := Lib.hid hcon
  generalize kc x y = r at HC ⊢
  clear hcon
  change Calls _ _ #[.agg #[.string x.key, .int .i64 x.seg, .int .i64 x.at_, .int .i64 x.len, .int .u64 (x.ver : Int), .int .u64 (x.exp : Int), .int .i64 x.size], .agg #[.string y.key, .int .i64 y.seg, .int .i64 y.at_, .int .i64 y.len, .int .u64 (y.ver : Int), .int .u64 (y.exp : Int), .int .i64 y.size]] W _
  go_enter Tryd.func29, Tryd.ntmps29
  go_wp2_with fail
  refine (HC.out _).mono ?_
  rintro e w' ⟨rfl, rfl⟩
  go_wp2_with fail
  go_ret
  exact ⟨rfl, 0, _, by rw [Go.Sort.alloc_eq_grow, Go.Sort.alloc_eq_grow, Go.Sort.grow_grow]; rfl⟩
theorem but_sort {α : Type} [Inhabited α] (enc : α → List Value) (k : Nat) (w : World) (blk off n : Nat) (d : Array α) (os : Array Obj) : But (fun k => k = blk) w (sortWorldK enc k w blk off n d os) := by
  refine ⟨rfl, rfl, rfl, ?_, fun j hj hne => ?_⟩
  · show w.heap.size ≤ ((w.heap.modify blk _) ++ os).size
    rw [Array.size_append, Array.size_modify]; omega
  · show ((w.heap.modify blk _) ++ os)[j]? = w.heap[j]?
    rw [Array.getElem?_append_left (by rw [Array.size_modify]; exact hj), Array.getElem?_modify, if_neg (Ne.symm hne)]
theorem ksort_any {w : World} {base : Nat} (g cap : Nat) (L : List Ent) (ho : w.ownsRow base 32 7 (.slice (some ⟨g, 0, none⟩) L.length cap) L.length (ecl L)) (hl : L.length ≤ 100000) :
    Calls Tryd.prog 28 #[.slice (some ⟨g, 0, none⟩) L.length cap, .func (.func 29) #[] #[]] w fun e w' => e = .returned (.tuple #[]) ∧ ∃ L', L'.Perm L ∧ rises L' ∧ Ents w' (some ⟨g, 0, none⟩) L' ∧ But (fun k => k = g) w w' := by
  obtain ⟨cur, hblk, hcur⟩ : ∃ cur : Array Value, Blk w g 32 cur ∧ True := by
    rcases ho.2 with ⟨h, _⟩ | ⟨g', cap', cur, hv, hg, hh, _⟩
    · cases h
    · injection hv with hv
      injection hv with hv
      injection hv with hv
      subst hv
      exact ⟨cur, hh, trivial⟩
  have hget : ∀ j, j < L.length * 7 → (ecl L)[j]? = some ((Go.Sort.flatK ecells 7 L.toArray)[j]!) := by
    intro j hj
    have hd : j / 7 < L.length := by omega
    have h1 := flat_get (f := ecells) ecells_length (l := L) (i := j / 7) (j := j % 7) (x := L[j / 7]) (List.getElem?_eq_getElem hd) (by omega)
    rw [show j / 7 * 7 + j % 7 = j by omega] at h1
    show (L.flatMap ecells)[j]? = _
    rw [h1, Go.Sort.get_flatK _ _ _ _ (by simpa using hj)]
    have h2 : (L.toArray)[j / 7]! = L[j / 7] := by rw [getElem!_pos L.toArray (j / 7) (by simpa using hd)]; simp
    rw [h2]
    have h3 : j % 7 < (ecells L[j / 7]).length := by rw [ecells_length]; omega
    rw [getElem!_pos (ecells L[j / 7]) (j % 7) h3]
    exact List.getElem?_eq_getElem h3
  have hH : Go.Sort.HoldsK ecells 7 w g 0 L.toArray := by
    intro j hj
    rw [Go.Sort.size_flatK] at hj
    have hj' : j < L.length * 7 := by simpa using hj
    refine ⟨?_, hblk.frozen _⟩
    rw [Nat.zero_add, ho.cellAt j hj']
    exact hget j hj'
  have eg : ∀ args w, (callFunc 29 args).run Tryd.prog w = .ok (.enter 29 args) w := enters_of Tryd.func29 (by kernel_rfl) rfl
  have hcon := AnyQ.slices_SortFunc Tryd.sortEnt 7 Tryd.isAgg32 Tryd.sizeOf32 ecells ecells_length ecells_one kc kc_swo 29 #[] g 0 cap L.toArray w eg (fun _ _ _ _ x y => closure_cmp x y _) hH hblk.lt (by simp; omega)
  rw [show L.toArray.size = L.length from by simp] at hcon
  refine Calls.mono hcon ?_
  rintro e w' ⟨rfl, d', n, os, hp, hs, rfl⟩
  refine ⟨rfl, d'.toList, ?_, ?_, ⟨g, rfl, ?_, ?_⟩, but_sort _ _ _ _ _ _ _ _⟩
  · have h1 := hp.2.2
    have h0 := hp.1
    have e1 : d'.extract 0 L.length = d' := Array.extract_eq_self_of_le (by rw [h0]; simp)
    have e2 : L.toArray.extract 0 L.length = L.toArray := Array.extract_eq_self_of_le (by simp)
    rw [e1, e2] at h1
    exact h1
  · have h0 := hp.1
    unfold rises; rw [List.pairwise_iff_getElem]
    intro i j hi hj hij
    have h1 := hs i j (Nat.zero_le _) hij (by simpa [h0] using hj)
    rw [getElem!_pos d' i (by simpa using hi), getElem!_pos d' j (by simpa using hj)] at h1
    simpa [ltOf] using h1
  · exact lt_sortWorldK _ _ _ _ _ _ _ _ hblk.lt
  · intro i h j hj
    have h0 := hp.1
    have hk := holdsK_sortWorldK ecells 7 w g 0 n L.toArray d' os hblk.lt hH h0
    have h2 := hk (i * 7 + j) (by rw [Go.Sort.size_flatK]; simp at h; omega)
    rw [Nat.zero_add] at h2
    rw [h2.1, Go.Sort.get_flatK _ _ _ _ (by simp at h; omega), show (i * 7 + j) / 7 = i by omega, show (i * 7 + j) % 7 = j by omega]
    have h3 : d'[i]! = d'.toList[i] := by rw [getElem!_pos d' i (by simpa using h)]; simp
    rw [h3]
    have h4 : j < (ecells d'.toList[i]).length := by rw [ecells_length]; exact hj
    rw [getElem!_pos (ecells d'.toList[i]) j h4]
    exact (List.getElem?_eq_getElem h4).symm
end Go.Proofs.YtabclecfamkanaaDoor.Key
