/- Contracts of the document's Before and Push: a rising list of items. -/
import Derived.Test.YtdkknjgjogekiaaExpDue
namespace Go.Proofs.Ytdkknjgjogekiaa.Exp
open Go.Proofs.Ytdkknjgjogekiaa.Mem
open Go.ChangeShapes Go.WideShapes Go.ChangeAt Go.RowKit
set_option linter.unusedVariables false
set_option linter.unusedSimpArgs false
theorem ref_info : (Try.prog.info? 35).map (fun i => (i.zero, i.size, i.bytes)) = some (some (.agg (icells nil).toArray), 2, 24) := by kernel_rfl
theorem ref_size : (Try.prog.info? 35).map (·.size) = some 2 := by kernel_rfl
section
variable {w w' : World} {l m : List It}
set_option maxRecDepth 100000 in
set_option maxHeartbeats 1000000 in
theorem before_any (w : World) (x y : It) : Calls Try.prog 16 #[.agg #[.int .u64 (x.time : Int), .string x.key], .agg #[.int .u64 (y.time : Int), .string y.key]] w fun e w' => e = .returned (.bool (lt x y)) ∧ But (fun _ => False) w w' := by
  obtain ⟨W1, hW1⟩ : ∃ W1, W1 = (w.alloc (.cells #[.int .u64 (x.time : Int), .string x.key] 35)) := ⟨_, rfl⟩
  have hb1 : But (fun _ => False) w W1 := by rw [hW1]; exact (But.refl _ w).alloc _
  have hx : Blk W1 w.heap.size 35 #[.int .u64 (x.time : Int), .string x.key] := by rw [hW1]; exact Blk.new _ _ _
  have hs : W1.heap.size = w.heap.size + 1 := by rw [hW1]; simp
  have hy := Blk.new W1 35 #[.int .u64 (y.time : Int), .string y.key]
  rw [hs] at hy
  have hb2 := hb1.alloc (.cells #[.int .u64 (y.time : Int), .string y.key] 35)
  have hx2 := hx.but ((But.refl (fun _ => False) W1).alloc (.cells #[.int .u64 (y.time : Int), .string y.key] 35)) (fun h => h)
  rw [hW1] at hx2 hy hb2
  have x0 := hx2.cell 0
  have x1 := hx2.cell 1
  have y0 := hy.cell 0
  have y1 := hy.cell 1
  have x0' : _ = some (Value.int .u64 (x.time : Int)) := x0
  have x1' : _ = some (Value.string x.key) := x1
  have y0' : _ = some (Value.int .u64 (y.time : Int)) := y0
  have y1' : _ = some (Value.string y.key) := y1
  have HB2 := Lib.hid hb2
  clear hb1 hx hs hy hb2 hx2 x0 x1 y0 y1 hW1
  by_cases ht : x.time = y.time
  · have he : ((x.time : Int) == (y.time : Int)) = true := by rw [ht]; exact beq_self_eq_true _
    rw [lt_key ht]
    clear ht
    go_enter Try.func16, Try.ntmps16
    go_wp2_with fail
    go_ret
    exact ⟨rfl, HB2.out⟩
  · have he : ((x.time : Int) == (y.time : Int)) = false := beq_eq_false_iff_ne.2 (by omega)
    rw [lt_time ht]
    go_enter Try.func16, Try.ntmps16
    go_wp2_with fail
    go_ret
    exact ⟨rfl, HB2.out⟩
theorem Shows.drop {t : TypeId} {g off k : Nat} (h : Shows w t (some ⟨g, off, none⟩) m) : Shows w t (some ⟨g, off + k * 2, none⟩) (m.drop k) := by
  rcases h with h | ⟨g', off', h1, h2, h3⟩
  · subst h; exact .inl (by simp)
  · injection h1 with h1
    injection h1 with h4 h5
    subst h4 h5
    refine .inr ⟨_, _, rfl, h2, fun i hi => ?_⟩
    rw [List.length_drop] at hi
    have := h3 (k + i) (by omega)
    rw [show off + (k + i) * 2 = off + k * 2 + i * 2 by omega] at this
    rw [show look (m.drop k) i = look m (k + i) by simp [look, List.getD, List.getElem?_drop]]
    exact this
theorem Shows.take {t : TypeId} {a : Option Addr} {k : Nat} (h : Shows w t a m) : Shows w t a (m.take k) := by
  rcases h with h | ⟨g', off', h1, h2, h3⟩
  · subst h; exact .inl (by simp)
  · refine .inr ⟨_, _, h1, h2, fun i hi => ?_⟩
    rw [List.length_take] at hi
    rw [show look (m.take k) i = look m i by simp [look, List.getD, List.getElem?_take, show i < k by omega]]
    exact h3 i (by omega)
/- The document's list of items, as it lies in memory. -/
structure Ref (w : World) (W0 : Nat) (a : Option Addr) (n c : Nat) (m : List It) : Prop where
  shows : Shows w 35 a m
  len : n = m.length
  none_ : a = none → c = 0
  le : n ≤ c
  ris : Ris m
  new : ∀ g off s, a = some ⟨g, off, s⟩ → W0 ≤ g ∧ g < w.heap.size ∧ s = none
theorem Ref.but {W0 : Nat} {a : Option Addr} {n c : Nat} {F : Nat → Prop} (h : Ref w W0 a n c m) (hb : But F w w') (hF : ∀ k, W0 ≤ k → k < w.heap.size → (∃ cs, Blk w k 35 cs) → ¬ F k) : Ref w' W0 a n c m := by
  refine ⟨?_, h.len, h.none_, h.le, h.ris, fun g off s e => ⟨(h.new g off s e).1, Nat.lt_of_lt_of_le (h.new g off s e).2.1 hb.size, (h.new g off s e).2.2⟩⟩
  rcases h.shows with h1 | ⟨g, off, h1, ⟨cs, h2⟩, h3⟩
  · exact .inl h1
  · have hf := hF g (h.new g off none h1).1 h2.lt ⟨cs, h2⟩
    refine .inr ⟨g, off, h1, ⟨cs, h2.but hb hf⟩, fun i hi j u hu => ?_⟩
    exact (hb.cell (p := ⟨g, off + i * 2 + j, none⟩) h2.lt hf).trans (h3 i hi j u hu)
theorem Ref.rest {W0 : Nat} {a : Option Addr} {n c k : Nat} (h : Ref w W0 a n c m) (hk : k ≤ n) {b : Option Addr} {d : Nat} (hb : (b = a ∧ c = k ∧ d = 0) ∨ (b = a.map (·.add (k * 2)) ∧ c ≠ k)) : Sees w 2 (.slice b (n - k) d) (n - k) (rowI (m.drop k)) := by
  have hl := h.len
  have hc := h.le
  rcases hb with ⟨rfl, hck, rfl⟩ | ⟨rfl, hck⟩
  · have hnk : n = k := by omega
    refine Shows.sees (t := 35) ?_ (by rw [List.length_drop]; omega) (fun _ => rfl)
    rw [List.drop_eq_nil_of_le (by omega)]
    exact .inl rfl
  · cases a with
    | none => have := h.none_ rfl; omega
    | some q =>
      obtain ⟨g, off, s⟩ := q
      obtain rfl := (h.new g off s rfl).2.2
      rw [Option.map_some, add_none]
      exact Shows.sees h.shows.drop (by rw [List.length_drop]; omega) (fun e => by cases e)
theorem Ref.made {w8 : World} {W0 B k : Nat} {a : Option Addr} {n c : Nat} {x : It} {v8 : Value} (h : Ref w W0 a n c m) (hs : spot m x = k) (hk : k ≤ n) (hB : W0 ≤ B) (ho : w8.ownsRow B 35 2 v8 (k + 1 + (n - k)) (rowI (m.take k ++ [x]) ++ rowI (m.drop k))) :
    ∃ a' c', v8 = .slice a' (n + 1) c' ∧ Ref w8 W0 a' (n + 1) c' (ins m x) := by
  rw [show k + 1 + (n - k) = n + 1 by omega, show rowI (m.take k ++ [x]) ++ rowI (m.drop k) = rowI (ins m x) by unfold ins; rw [hs]; simp [rowI, List.flatMap_append]] at ho
  obtain ⟨a8, c8, rfl, hs8, hg8⟩ := Shows.of_own ho
  have hl8 : (ins m x).length = n + 1 := by rw [(ins_perm m x).length_eq]; have := h.len; simp; omega
  refine ⟨a8, c8, by rw [hl8], hs8, hl8.symm, ?_, ?_, ins_ris h.ris x, ?_⟩
  · intro e
    subst e
    rcases ho.2 with ⟨h1, _⟩ | ⟨g, cap, cur, h1, _⟩
    · injection h1
    · injection h1 with h1; cases h1
  · rcases ho.2 with ⟨h1, h2⟩ | ⟨g, cap, cur, h1, _, _, h4, _⟩
    · omega
    · injection h1 with _ _ h3; omega
  · intro g off s e
    rcases ho.2 with ⟨h1, h2⟩ | ⟨g', cap, cur, h1, h2, h3, _⟩
    · omega
    · injection h1 with h1 _ _
      rw [e] at h1
      injection h1 with h1
      injection h1 with e1 e2 e3
      subst e1
      exact ⟨by omega, (Array.getElem?_eq_some_iff.1 h3).1, e3⟩
set_option maxRecDepth 100000 in
set_option maxHeartbeats 1000000 in
theorem rpush_any {W0 : Nat} {a : Option Addr} {n c : Nat} (h : Ref w W0 a n c m) (x : It) (hn : n ≤ 1000) (hW : W0 ≤ w.heap.size) :
    Calls Try.prog 9 #[.slice a n c, .agg #[.int .u64 (x.time : Int), .string x.key]] w fun e w' => ∃ a' c', e = .returned (.slice a' (n + 1) c') ∧ Ref w' W0 a' (n + 1) c' (ins m x) ∧ But (fun _ => False) w w' := by
  have HR := Lib.hid h
  obtain ⟨i0, hi0, hz⟩ := Option.map_eq_some_iff.1 ref_info
  simp only [Prod.mk.injEq] at hz
  obtain ⟨hz0, hz1, hz2⟩ := hz
  obtain ⟨W1, hW1⟩ : ∃ W1, W1 = (w.alloc (.cells #[.int .u64 (x.time : Int), .string x.key] 35)) := ⟨_, rfl⟩
  have hb1 : But (fun _ => False) w W1 := by rw [hW1]; exact (But.refl _ w).alloc _
  have hx : Blk W1 w.heap.size 35 #[.int .u64 (x.time : Int), .string x.key] := by rw [hW1]; exact Blk.new _ _ _
  have HS := Lib.hid (show ∃ k, k ≤ n ∧ n = k + (n - k) ∧ (∀ j (h : j < m.length), k ≤ j → lt x m[j] = true) ∧ But (fun _ => False) W1 W1 from ⟨n, Nat.le_refl _, by omega, fun j hj hk => by have := h.len; omega, But.refl _ _⟩)
  have HB1 := Lib.hid hb1
  have HX := Lib.hid hx
  have HW1 := Lib.hid hW1
  clear h hb1 hx hW1
  go_enter Try.func9, Try.ntmps9
  go_wp2_with fail
  rw [← HW1.out]
  go_loopw [5] (fun y wr => ∃ k : Nat, y = .int .i64 (k : Int) ∧ k ≤ n ∧ (∀ j (h : j < m.length), k ≤ j → lt x m[j] = true) ∧ But (fun _ => False) W1 wr) (fun y _ => (intOf y).toNat)
  case atStart => exact ⟨n, rfl, Nat.le_refl _, fun j hj hk => by have := HR.out.len; omega, But.refl _ _⟩
  case round =>
    obtain ⟨k, rfl, hk, hbh, hB⟩ := hrel
    have HBH := Lib.hid hbh
    have HB := Lib.hid hB
    have hxr := HX.out.but hB (fun h => h)
    have x0 : wr.cell? ⟨w.heap.size, 0, none⟩ = some (.int .u64 (x.time : Int)) := hxr.cell 0
    have x1 : wr.cell? ⟨w.heap.size, 1, none⟩ = some (.string x.key) := hxr.cell 1
    clear hbh hB hxr
    by_cases h0 : k = 0
    · have hnk : ¬ (0 < k) := by omega
      have HSP := Lib.hid (show spot m x = k from spot_stop HR.out.ris (by omega) (fun j hj hk => HBH.out j hj hk) (fun h => absurd h (by omega)))
      clear h0
      go_wp2_with fail
      refine Late.region_goes (fun V => V = wr.drew) (fun _ => false) (by kernel_rfl) ?_ (fun hH => ?_)
      · rfl
      refine Late.Goes.takeT (i := 0) (v := ?_) (by simp only [List.getElem?_toArray, List.getElem?_cons_succ, List.getElem?_cons_zero]; rfl) (by kernel_rfl) (by kernel_rfl) (by kernel_rfl) (by kernel_rfl) (by kernel_rfl) (by exact fun _ _ _ h => h) (Or.inl ⟨by rfl, ?_⟩) hH ?_
      rotate_left
      · (intro wy hSw; (try dsimp only at hSw); subst hSw; go_simp; try (with_reducible rfl))
      try simp only [Act.put, List.setIfInBounds_toArray, List.set_cons_zero, List.set_cons_succ]
      refine Late.Goes.takeT (i := 1) (v := ?_) (by simp only [List.getElem?_toArray, List.getElem?_cons_succ, List.getElem?_cons_zero]; rfl) (by kernel_rfl) (by kernel_rfl) (by kernel_rfl) (by kernel_rfl) (by kernel_rfl) (by exact fun _ _ _ h => h) (Or.inl ⟨by rfl, ?_⟩) hH ?_
      rotate_left
      · (intro wy hSw; (try dsimp only at hSw); subst hSw; go_simp; try (with_reducible rfl))
      try simp only [Act.put, List.setIfInBounds_toArray, List.set_cons_zero, List.set_cons_succ]
      refine Late.Goes.takeT (i := 2) (v := ?_) (by simp only [List.getElem?_toArray, List.getElem?_cons_succ, List.getElem?_cons_zero]; rfl) (by kernel_rfl) (by kernel_rfl) (by kernel_rfl) (by kernel_rfl) (by kernel_rfl) (by exact fun _ _ _ h => h) (Or.inl ⟨by rfl, ?_⟩) hH ?_
      rotate_left
      · (intro wy hSw; (try dsimp only at hSw); subst hSw; go_simp; try (with_reducible rfl))
      try simp only [Act.put, List.setIfInBounds_toArray, List.set_cons_zero, List.set_cons_succ]
      refine Late.Goes.takeT (i := 3) (v := undef) (by simp only [List.getElem?_toArray, List.getElem?_cons_succ, List.getElem?_cons_zero]; rfl) (by kernel_rfl) (by kernel_rfl) (by kernel_rfl) (by kernel_rfl) (by kernel_rfl) (by exact fun _ _ _ h => h) (Or.inr ⟨by rfl, rfl⟩) hH ?_
      try simp only [Act.put, List.setIfInBounds_toArray, List.set_cons_zero, List.set_cons_succ]
      refine Late.Goes.takeT (i := 4) (v := undef) (by simp only [List.getElem?_toArray, List.getElem?_cons_succ, List.getElem?_cons_zero]; rfl) (by kernel_rfl) (by kernel_rfl) (by kernel_rfl) (by kernel_rfl) (by kernel_rfl) (by exact fun _ _ _ h => h) (Or.inr ⟨by rfl, rfl⟩) hH ?_
      try simp only [Act.put, List.setIfInBounds_toArray, List.set_cons_zero, List.set_cons_succ]
      refine Late.Goes.takeT (i := 5) (v := undef) (by simp only [List.getElem?_toArray, List.getElem?_cons_succ, List.getElem?_cons_zero]; rfl) (by kernel_rfl) (by kernel_rfl) (by kernel_rfl) (by kernel_rfl) (by kernel_rfl) (by exact fun _ _ _ h => h) (Or.inr ⟨by rfl, rfl⟩) hH ?_
      try simp only [Act.put, List.setIfInBounds_toArray, List.set_cons_zero, List.set_cons_succ]
      refine Late.Goes.takeT (i := 6) (v := undef) (by simp only [List.getElem?_toArray, List.getElem?_cons_succ, List.getElem?_cons_zero]; rfl) (by kernel_rfl) (by kernel_rfl) (by kernel_rfl) (by kernel_rfl) (by kernel_rfl) (by exact fun _ _ _ h => h) (Or.inr ⟨by rfl, rfl⟩) hH ?_
      try simp only [Act.put, List.setIfInBounds_toArray, List.set_cons_zero, List.set_cons_succ]
      refine Late.Goes.takeT (i := 7) (v := undef) (by simp only [List.getElem?_toArray, List.getElem?_cons_succ, List.getElem?_cons_zero]; rfl) (by kernel_rfl) (by kernel_rfl) (by kernel_rfl) (by kernel_rfl) (by kernel_rfl) (by exact fun _ _ _ h => h) (Or.inr ⟨by rfl, rfl⟩) hH ?_
      try simp only [Act.put, List.setIfInBounds_toArray, List.set_cons_zero, List.set_cons_succ]
      refine Late.Goes.takeT (i := 8) (v := undef) (by simp only [List.getElem?_toArray, List.getElem?_cons_succ, List.getElem?_cons_zero]; rfl) (by kernel_rfl) (by kernel_rfl) (by kernel_rfl) (by kernel_rfl) (by kernel_rfl) (by exact fun _ _ _ h => h) (Or.inr ⟨by rfl, rfl⟩) hH ?_
      try simp only [Act.put, List.setIfInBounds_toArray, List.set_cons_zero, List.set_cons_succ]
      refine Late.Goes.takeT (i := 9) (v := undef) (by simp only [List.getElem?_toArray, List.getElem?_cons_succ, List.getElem?_cons_zero]; rfl) (by kernel_rfl) (by kernel_rfl) (by kernel_rfl) (by kernel_rfl) (by kernel_rfl) (by exact fun _ _ _ h => h) (Or.inr ⟨by rfl, rfl⟩) hH ?_
      try simp only [Act.put, List.setIfInBounds_toArray, List.set_cons_zero, List.set_cons_succ]
      refine Late.Goes.takeT (i := 10) (v := ?_) (by simp only [List.getElem?_toArray, List.getElem?_cons_succ, List.getElem?_cons_zero]; rfl) (by kernel_rfl) (by kernel_rfl) (by kernel_rfl) (by kernel_rfl) (by kernel_rfl) (by exact fun _ _ _ h => h) (Or.inl ⟨by rfl, ?_⟩) hH ?_
      rotate_left
      · (intro wy hSw; (try dsimp only at hSw); subst hSw; go_simp; try (with_reducible rfl))
      try simp only [Act.put, List.setIfInBounds_toArray, List.set_cons_zero, List.set_cons_succ]
      refine Late.Goes.done (by kernel_rfl) ?_ _
      have HB2 := Lib.hid (HB.out.drew)
      generalize wr.drew = w2 at HB2 ⊢
      clear x0 x1 HB HBH hnk
      by_cases hck : k = c
      · subst hck
        have hkl : k ≤ m.length := by have := HR.out.len; omega
        have hbw := (HB1.out.trans HB2.out (fun _ _ h => h))
        have hx2 := HX.out.but HB2.out (fun h => h)
        have hxs := HX.out.lt
        have hws : W1.heap.size ≤ w2.heap.size := HB2.out.size
        obtain ⟨W3, hW3⟩ : ∃ W3, W3 = w2.alloc (.cells #[] 35) := ⟨_, rfl⟩
        have hb3 : But (fun _ => False) w2 W3 := by rw [hW3]; exact (But.refl _ w2).alloc _
        have hbw3 := hbw.trans hb3 (fun _ _ h => h)
        have HS3 := Lib.hid (show Sees W3 2 (.slice a k k) k (rowI (m.take k)) from Shows.sees (Shows.take (HR.out.shows.but hbw3 (fun _ _ _ h => h))) (by rw [List.length_take]; omega) HR.out.none_)
        have HO3 := Lib.hid (show W3.ownsRow w2.heap.size 35 2 (.slice (some ⟨w2.heap.size, 0, none⟩) 0 0) 0 [] from ⟨rfl, .inr ⟨_, 0, #[], rfl, Nat.le_refl _, by rw [hW3]; exact Blk.new w2 _ _, Nat.le_refl _, Nat.zero_le _, rfl, rfl⟩⟩)
        have HX3 := Lib.hid (hx2.but hb3 (fun h => h))
        have HB3 := Lib.hid (show But (fun k => w2.heap.size ≤ k) W3 W3 from But.refl _ _)
        have HBW3 := Lib.hid hbw3
        have HW3 := Lib.hid hW3
        have HS23 := Lib.hid hb3.size
        have HXS := Lib.hid (show w.heap.size < w2.heap.size by omega)
        have hcn := HR.out.le
        clear hbw hx2 hxs hws hb3 hbw3 hW3
        go_wp2_with (first
          | (at_builtin
             change wpList _ _ _ _ _ (w2.alloc (.cells #[] 35))
             rw [← HW3.out]
             refine wpList_append_onto rfl _ _ _ rfl w2.heap.size 35 i0 _ 2 24 Try.underlying26 hi0 hz0 hz1 hz2 rfl (by omega) (.slice (some ⟨w2.heap.size, 0, none⟩) 0 0) 0 [] rfl HO3.out (.slice a k k) k (rowI (m.take k)) rfl HS3.out (rowI_one _) (by unfold maxLen; omega) (by omega) HS23.out ?_
             intro v4 w4 ho4 hon4
             rw [Nat.zero_add, List.nil_append] at ho4
             obtain ⟨a4, c4, rfl⟩ := own_slice ho4
             have hb4 : But (fun _ => False) w w4 := HBW3.out.trans hon4.but (fun i hi e => by
               have e1 : i = w2.heap.size := Option.some.inj e
               have := HXS.out
               omega)
             have hx4 := HX3.out.but hon4.but (fun e => by
               have e1 : w.heap.size = w2.heap.size := Option.some.inj e
               have := HXS.out
               omega)
             obtain ⟨W5, hW5⟩ : ∃ W5, W5 = w4.alloc (.cells #[.int .u64 (x.time : Int), .string x.key] 35) := ⟨_, rfl⟩
             have hb5 : But (fun _ => False) w4 W5 := by rw [hW5]; exact (But.refl _ w4).alloc _
             have x4 : w4.cell? ⟨w.heap.size, 0, none⟩ = some (.int .u64 (x.time : Int)) := hx4.cell 0
             have x5 : w4.cell? ⟨w.heap.size, 1, none⟩ = some (.string x.key) := hx4.cell 1
             have HO5 := Lib.hid (ownsRow_but ho4 hb5 (fun _ _ h => h))
             have HB5 := Lib.hid (hb4.trans hb5 (fun _ _ h => h))
             have HE5 := Lib.hid (show Sees W5 2 (.slice (some ⟨w4.heap.size, 0, none⟩) 1 1) 1 (icells x) by rw [hW5]; exact sees_item w4 x _ _ _ rfl)
             have HS5 := Lib.hid (show w2.heap.size ≤ W5.heap.size by have h1 := hb5.size; have h2 := hon4.grown.size; have h3 := HS23.out; omega)
             have HW5 := Lib.hid hW5
             clear ho4 hon4 hb4 hb5 hx4 hW5)
          | (at_builtin
             change wpList _ _ _ _ _ (w4.alloc (.cells #[.int .u64 (x.time : Int), .string x.key] 35))
             rw [← HW5.out]
             refine wpList_append_onto rfl _ _ _ rfl w2.heap.size 35 i0 _ 2 24 Try.underlying26 hi0 hz0 hz1 hz2 rfl (by omega) (.slice a4 k c4) k (rowI (m.take k)) rfl HO5.out (.slice (some ⟨w4.heap.size, 0, none⟩) 1 1) 1 (icells x) rfl HE5.out (icells_one x) (by unfold maxLen; omega) (by omega) HS5.out ?_
             intro v6 w6 ho6 hon6
             rw [rowI_snoc] at ho6
             have hb6 : But (fun _ => False) w w6 := HB5.out.trans hon6.but (fun i hi e => by
               have := (HO5.out.lt i e.symm).1
               have := HXS.out
               omega)
             obtain ⟨a6, c6, rfl⟩ := own_slice ho6
             have HO6 := Lib.hid ho6
             have HB6 := Lib.hid hb6
             have HS6 := Lib.hid (show w2.heap.size ≤ w6.heap.size by have h2 := hon6.grown.size; have h3 := HS5.out; omega)
             have HR6 := Lib.hid (HR.out.but hb6 (fun _ _ _ _ h => h))
             clear ho6 hon6 hb6 x4 x5)
          | (at_builtin
             refine wpList_append_onto rfl _ _ _ rfl w2.heap.size 35 i0 _ 2 24 Try.underlying26 hi0 hz0 hz1 hz2 rfl (by omega) (.slice a6 (k + 1) c6) (k + 1) (rowI (m.take k ++ [x])) rfl HO6.out (.slice _ 0 _) 0 (rowI (m.drop k)) rfl (by have e := HR6.out.rest hk (.inl ⟨rfl, rfl, rfl⟩); rw [show n - k = 0 by omega] at e; exact e) (rowI_one _) (by unfold maxLen; omega) (by omega) HS6.out ?_
             intro v8 w8 ho8 hon8
             have HB8 := Lib.hid (show But (fun _ => False) w w8 from HB6.out.trans hon8.but (fun i hi e => by have := (HO6.out.lt i e.symm).1; have := HXS.out; omega))
             have HE8 := Lib.hid (HR6.out.made (B := w2.heap.size) (v8 := v8) (w8 := w8) HSP.out hk (by have := HXS.out; omega) (by rw [show n - k = 0 by omega]; exact ho8))
             clear ho8 hon8))
        all_goals (obtain ⟨a8, c8, rfl, hR8⟩ := HE8.out; have HR8 := Lib.hid hR8; clear hR8; go_wp2_with fail; go_ret; exact ⟨a8, c8, rfl, HR8.out, HB8.out⟩)
      · have hcc : ¬ c = k := fun e => hck e.symm
        clear hck
        have hkl : k ≤ m.length := by have := HR.out.len; omega
        have hbw := (HB1.out.trans HB2.out (fun _ _ h => h))
        have hx2 := HX.out.but HB2.out (fun h => h)
        have hxs := HX.out.lt
        have hws : W1.heap.size ≤ w2.heap.size := HB2.out.size
        obtain ⟨W3, hW3⟩ : ∃ W3, W3 = w2.alloc (.cells #[] 35) := ⟨_, rfl⟩
        have hb3 : But (fun _ => False) w2 W3 := by rw [hW3]; exact (But.refl _ w2).alloc _
        have hbw3 := hbw.trans hb3 (fun _ _ h => h)
        have HS3 := Lib.hid (show Sees W3 2 (.slice a k c) k (rowI (m.take k)) from Shows.sees (Shows.take (HR.out.shows.but hbw3 (fun _ _ _ h => h))) (by rw [List.length_take]; omega) HR.out.none_)
        have HO3 := Lib.hid (show W3.ownsRow w2.heap.size 35 2 (.slice (some ⟨w2.heap.size, 0, none⟩) 0 0) 0 [] from ⟨rfl, .inr ⟨_, 0, #[], rfl, Nat.le_refl _, by rw [hW3]; exact Blk.new w2 _ _, Nat.le_refl _, Nat.zero_le _, rfl, rfl⟩⟩)
        have HX3 := Lib.hid (hx2.but hb3 (fun h => h))
        have HB3 := Lib.hid (show But (fun k => w2.heap.size ≤ k) W3 W3 from But.refl _ _)
        have HBW3 := Lib.hid hbw3
        have HW3 := Lib.hid hW3
        have HS23 := Lib.hid hb3.size
        have HXS := Lib.hid (show w.heap.size < w2.heap.size by omega)
        have hkc : k ≤ c := by have := HR.out.le; omega
        have hcn := HR.out.le
        clear hbw hx2 hxs hws hb3 hbw3 hW3
        go_wp2_with (first
          | (at_builtin
             change wpList _ _ _ _ _ (w2.alloc (.cells #[] 35))
             rw [← HW3.out]
             refine wpList_append_onto rfl _ _ _ rfl w2.heap.size 35 i0 _ 2 24 Try.underlying26 hi0 hz0 hz1 hz2 rfl (by omega) (.slice (some ⟨w2.heap.size, 0, none⟩) 0 0) 0 [] rfl HO3.out (.slice a k c) k (rowI (m.take k)) rfl HS3.out (rowI_one _) (by unfold maxLen; omega) (by omega) HS23.out ?_
             intro v4 w4 ho4 hon4
             rw [Nat.zero_add, List.nil_append] at ho4
             obtain ⟨a4, c4, rfl⟩ := own_slice ho4
             have hb4 : But (fun _ => False) w w4 := HBW3.out.trans hon4.but (fun i hi e => by
               have e1 : i = w2.heap.size := Option.some.inj e
               have := HXS.out
               omega)
             have hx4 := HX3.out.but hon4.but (fun e => by
               have e1 : w.heap.size = w2.heap.size := Option.some.inj e
               have := HXS.out
               omega)
             obtain ⟨W5, hW5⟩ : ∃ W5, W5 = w4.alloc (.cells #[.int .u64 (x.time : Int), .string x.key] 35) := ⟨_, rfl⟩
             have hb5 : But (fun _ => False) w4 W5 := by rw [hW5]; exact (But.refl _ w4).alloc _
             have x4 : w4.cell? ⟨w.heap.size, 0, none⟩ = some (.int .u64 (x.time : Int)) := hx4.cell 0
             have x5 : w4.cell? ⟨w.heap.size, 1, none⟩ = some (.string x.key) := hx4.cell 1
             have HO5 := Lib.hid (ownsRow_but ho4 hb5 (fun _ _ h => h))
             have HB5 := Lib.hid (hb4.trans hb5 (fun _ _ h => h))
             have HE5 := Lib.hid (show Sees W5 2 (.slice (some ⟨w4.heap.size, 0, none⟩) 1 1) 1 (icells x) by rw [hW5]; exact sees_item w4 x _ _ _ rfl)
             have HS5 := Lib.hid (show w2.heap.size ≤ W5.heap.size by have h1 := hb5.size; have h2 := hon4.grown.size; have h3 := HS23.out; omega)
             have HW5 := Lib.hid hW5
             clear ho4 hon4 hb4 hb5 hx4 hW5)
          | (at_builtin
             change wpList _ _ _ _ _ (w4.alloc (.cells #[.int .u64 (x.time : Int), .string x.key] 35))
             rw [← HW5.out]
             refine wpList_append_onto rfl _ _ _ rfl w2.heap.size 35 i0 _ 2 24 Try.underlying26 hi0 hz0 hz1 hz2 rfl (by omega) (.slice a4 k c4) k (rowI (m.take k)) rfl HO5.out (.slice (some ⟨w4.heap.size, 0, none⟩) 1 1) 1 (icells x) rfl HE5.out (icells_one x) (by unfold maxLen; omega) (by omega) HS5.out ?_
             intro v6 w6 ho6 hon6
             rw [rowI_snoc] at ho6
             have hb6 : But (fun _ => False) w w6 := HB5.out.trans hon6.but (fun i hi e => by
               have := (HO5.out.lt i e.symm).1
               have := HXS.out
               omega)
             obtain ⟨a6, c6, rfl⟩ := own_slice ho6
             have HO6 := Lib.hid ho6
             have HB6 := Lib.hid hb6
             have HS6 := Lib.hid (show w2.heap.size ≤ w6.heap.size by have h2 := hon6.grown.size; have h3 := HS5.out; omega)
             have HR6 := Lib.hid (HR.out.but hb6 (fun _ _ _ _ h => h))
             clear ho6 hon6 hb6 x4 x5)
          | (at_builtin
             refine wpList_append_onto rfl _ _ _ rfl w2.heap.size 35 i0 _ 2 24 Try.underlying26 hi0 hz0 hz1 hz2 rfl (by omega) (.slice a6 (k + 1) c6) (k + 1) (rowI (m.take k ++ [x])) rfl HO6.out (.slice _ (n - k) _) (n - k) (rowI (m.drop k)) rfl (HR6.out.rest hk (by exact .inr ⟨rfl, hcc⟩)) (rowI_one _) (by unfold maxLen; omega) (by omega) HS6.out ?_
             intro v8 w8 ho8 hon8
             have HB8 := Lib.hid (show But (fun _ => False) w w8 from HB6.out.trans hon8.but (fun i hi e => by have := (HO6.out.lt i e.symm).1; have := HXS.out; omega))
             have HE8 := Lib.hid (HR6.out.made HSP.out hk (by have := HXS.out; omega) ho8)
             clear ho8 hon8))
        all_goals (obtain ⟨a8, c8, rfl, hR8⟩ := HE8.out; have HR8 := Lib.hid hR8; clear hR8; go_wp2_with fail; go_ret; exact ⟨a8, c8, rfl, HR8.out, HB8.out⟩)
    · obtain ⟨k1, hk1e⟩ : ∃ k1, k = k1 + 1 := ⟨k - 1, by omega⟩
      have hk1 : k1 < m.length := by have := HR.out.len; omega
      obtain ⟨g, off, ha, hg, hrg⟩ := HR.out.shows.cells hk1
      have hrg2 := fun j u hu => ((HB1.out.trans HB.out (fun _ _ h => h)).drew.cell (p := ⟨g, off + k1 * 2 + j, none⟩) hg (fun h => h)).trans (hrg j u hu)
      have m0 : wr.drew.cell? ⟨g, off + k1 * 2, none⟩ = some (.int .u64 ((look m k1).time : Int)) := hrg2 0 _ rfl
      have m1 : wr.drew.cell? ⟨g, off + k1 * 2 + 1, none⟩ = some (.string (look m k1).key) := hrg2 1 _ rfl
      have x2 : wr.drew.cell? ⟨w.heap.size, 0, none⟩ = some (.int .u64 (x.time : Int)) := x0
      have x3 : wr.drew.cell? ⟨w.heap.size, 1, none⟩ = some (.string x.key) := x1
      have hkn : k1 < n := by have := HR.out.len; omega
      have hkn' : (k1 : Int) < (n : Int) := by omega
      have hkp : 0 < k := by omega
      have hkm : (k : Int) - 1 = (k1 : Int) := by omega
      have hwk : IntKind.i64.wrap (k1 : Int) = (k1 : Int) := by simp [IntKind.wrap, IntKind.signed, IntKind.bits]; omega
      have HA := Lib.hid ha
      have HBF := Lib.hid (before_any wr.drew x (look m k1))
      obtain ⟨b, hb⟩ : ∃ b, b = lt x (look m k1) := ⟨_, rfl⟩
      rw [← hb] at HBF
      have HBL := Lib.hid (show ∀ (h : k1 < m.length), lt x m[k1] = b from fun h => by rw [hb, look_get h])
      obtain ⟨y, hy⟩ : ∃ y, y = look m k1 := ⟨_, rfl⟩
      rw [← hy] at m0 m1 HBF
      have HM := Lib.hid (And.intro m0 (And.intro m1 (And.intro x2 x3)))
      have HK1 := Lib.hid hk1e
      rw [ha]
      clear hrg hrg2 hb hy x0 x1 h0 hk1 m0 m1 x2 x3 hk1e ha hg
      go_wp2_with fail
      refine Late.region_goes (fun V => V = wr.drew) (fun i => !(i != 9 && i != 10)) (by kernel_rfl) ?_ (fun hH => ?_)
      · rfl
      refine Late.Goes.takeT (i := 0) (v := ?_) (by simp only [List.getElem?_toArray, List.getElem?_cons_succ, List.getElem?_cons_zero]; rfl) (by kernel_rfl) (by kernel_rfl) (by kernel_rfl) (by kernel_rfl) (by kernel_rfl) (by exact fun _ _ _ h => h) (Or.inl ⟨by rfl, ?_⟩) hH ?_
      rotate_left
      · (intro wy hSw; (try dsimp only at hSw); subst hSw; have m0 := HM.out.1; have m1 := HM.out.2.1; have x2 := HM.out.2.2.1; have x3 := HM.out.2.2.2; go_simp; try (with_reducible rfl))
      try simp only [Act.put, List.setIfInBounds_toArray, List.set_cons_zero, List.set_cons_succ]
      refine Late.Goes.takeT (i := 1) (v := ?_) (by simp only [List.getElem?_toArray, List.getElem?_cons_succ, List.getElem?_cons_zero]; rfl) (by kernel_rfl) (by kernel_rfl) (by kernel_rfl) (by kernel_rfl) (by kernel_rfl) (by exact fun _ _ _ h => h) (Or.inl ⟨by rfl, ?_⟩) hH ?_
      rotate_left
      · (intro wy hSw; (try dsimp only at hSw); subst hSw; have m0 := HM.out.1; have m1 := HM.out.2.1; have x2 := HM.out.2.2.1; have x3 := HM.out.2.2.2; go_simp; try (with_reducible rfl))
      try simp only [Act.put, List.setIfInBounds_toArray, List.set_cons_zero, List.set_cons_succ]
      refine Late.Goes.takeT (i := 2) (v := ?_) (by simp only [List.getElem?_toArray, List.getElem?_cons_succ, List.getElem?_cons_zero]; rfl) (by kernel_rfl) (by kernel_rfl) (by kernel_rfl) (by kernel_rfl) (by kernel_rfl) (by exact fun _ _ _ h => h) (Or.inl ⟨by rfl, ?_⟩) hH ?_
      rotate_left
      · (intro wy hSw; (try dsimp only at hSw); subst hSw; have m0 := HM.out.1; have m1 := HM.out.2.1; have x2 := HM.out.2.2.1; have x3 := HM.out.2.2.2; go_simp; try (with_reducible rfl))
      try simp only [Act.put, List.setIfInBounds_toArray, List.set_cons_zero, List.set_cons_succ]
      refine Late.Goes.takeT (i := 3) (v := ?_) (by simp only [List.getElem?_toArray, List.getElem?_cons_succ, List.getElem?_cons_zero]; rfl) (by kernel_rfl) (by kernel_rfl) (by kernel_rfl) (by kernel_rfl) (by kernel_rfl) (by exact fun _ _ _ h => h) (Or.inl ⟨by rfl, ?_⟩) hH ?_
      rotate_left
      · (intro wy hSw; (try dsimp only at hSw); subst hSw; have m0 := HM.out.1; have m1 := HM.out.2.1; have x2 := HM.out.2.2.1; have x3 := HM.out.2.2.2; go_simp; try (with_reducible rfl))
      try simp only [Act.put, List.setIfInBounds_toArray, List.set_cons_zero, List.set_cons_succ]
      refine Late.Goes.takeT (i := 4) (v := ?_) (by simp only [List.getElem?_toArray, List.getElem?_cons_succ, List.getElem?_cons_zero]; rfl) (by kernel_rfl) (by kernel_rfl) (by kernel_rfl) (by kernel_rfl) (by kernel_rfl) (by exact fun _ _ _ h => h) (Or.inl ⟨by rfl, ?_⟩) hH ?_
      rotate_left
      · (intro wy hSw; (try dsimp only at hSw); subst hSw; have m0 := HM.out.1; have m1 := HM.out.2.1; have x2 := HM.out.2.2.1; have x3 := HM.out.2.2.2; go_simp; try (with_reducible rfl))
      try simp only [Act.put, List.setIfInBounds_toArray, List.set_cons_zero, List.set_cons_succ]
      refine Late.Goes.takeT (i := 5) (v := ?_) (by simp only [List.getElem?_toArray, List.getElem?_cons_succ, List.getElem?_cons_zero]; rfl) (by kernel_rfl) (by kernel_rfl) (by kernel_rfl) (by kernel_rfl) (by kernel_rfl) (by exact fun _ _ _ h => h) (Or.inl ⟨by rfl, ?_⟩) hH ?_
      rotate_left
      · (intro wy hSw; (try dsimp only at hSw); subst hSw; have m0 := HM.out.1; have m1 := HM.out.2.1; have x2 := HM.out.2.2.1; have x3 := HM.out.2.2.2; go_simp; try (with_reducible rfl))
      try simp only [Act.put, List.setIfInBounds_toArray, List.set_cons_zero, List.set_cons_succ]
      refine Late.Goes.takeT (i := 6) (v := ?_) (by simp only [List.getElem?_toArray, List.getElem?_cons_succ, List.getElem?_cons_zero]; rfl) (by kernel_rfl) (by kernel_rfl) (by kernel_rfl) (by kernel_rfl) (by kernel_rfl) (by exact fun _ _ _ h => h) (Or.inl ⟨by rfl, ?_⟩) hH ?_
      rotate_left
      · (intro wy hSw; (try dsimp only at hSw); subst hSw; have m0 := HM.out.1; have m1 := HM.out.2.1; have x2 := HM.out.2.2.1; have x3 := HM.out.2.2.2; go_simp; try (with_reducible rfl))
      try simp only [Act.put, List.setIfInBounds_toArray, List.set_cons_zero, List.set_cons_succ]
      refine Late.Goes.takeT (i := 7) (v := ?_) (by simp only [List.getElem?_toArray, List.getElem?_cons_succ, List.getElem?_cons_zero]; rfl) (by kernel_rfl) (by kernel_rfl) (by kernel_rfl) (by kernel_rfl) (by kernel_rfl) (by exact fun _ _ _ h => h) (Or.inl ⟨by rfl, ?_⟩) hH ?_
      rotate_left
      · (intro wy hSw; (try dsimp only at hSw); subst hSw; have m0 := HM.out.1; have m1 := HM.out.2.1; have x2 := HM.out.2.2.1; have x3 := HM.out.2.2.2; go_simp; try (with_reducible rfl))
      try simp only [Act.put, List.setIfInBounds_toArray, List.set_cons_zero, List.set_cons_succ]
      refine Late.Goes.takeT (i := 8) (v := ?_) (by simp only [List.getElem?_toArray, List.getElem?_cons_succ, List.getElem?_cons_zero]; rfl) (by kernel_rfl) (by kernel_rfl) (by kernel_rfl) (by kernel_rfl) (by kernel_rfl) (by exact fun _ _ _ h => h) (Or.inl ⟨by rfl, ?_⟩) hH ?_
      rotate_left
      · (intro wy hSw; (try dsimp only at hSw); subst hSw; have m0 := HM.out.1; have m1 := HM.out.2.1; have x2 := HM.out.2.2.1; have x3 := HM.out.2.2.2; go_simp; try (with_reducible rfl))
      try simp only [Act.put, List.setIfInBounds_toArray, List.set_cons_zero, List.set_cons_succ]
      refine Late.Goes.one (i := 9) (by kernel_rfl) (by simp only [List.getElem?_toArray, List.getElem?_cons_succ, List.getElem?_cons_zero]; rfl) (fun K hK => ?_)
      clear hH
      go_simp
      go_at_call 16
      refine HBF.out.mono ?_
      rintro e w2 ⟨rfl, hB2⟩
      have HB2 := Lib.hid ((HB.out.drew).trans hB2 (fun _ _ h => h))
      clear hB2 HBF HM
      refine hK.out _ _ ?_ (fun _ => ?_)
      · exact fun h => by cases h
      clear hK K
      try simp only [Act.put, List.setIfInBounds_toArray, List.set_cons_zero, List.set_cons_succ]
      have hH : True := trivial
      refine Late.Goes.one (i := 10) (by kernel_rfl) (by simp only [List.getElem?_toArray, List.getElem?_cons_succ, List.getElem?_cons_zero]; rfl) (fun K hK => ?_)
      clear hH
      go_simp
      refine hK.out _ _ ?_ (fun _ => ?_)
      · exact fun h => by cases h
      clear hK K
      try simp only [Act.put, List.setIfInBounds_toArray, List.set_cons_zero, List.set_cons_succ]
      refine Late.Goes.done (by kernel_rfl) ?_ _
      cases b with
      | true =>
        go_wp2_with fail
        go_roundw
        case rel =>
          refine ⟨k1, rfl, by omega, fun j hj hkj => ?_, HB2.out⟩
          by_cases hjk : j = k1
          · subst hjk; exact HBL.out hj
          · exact HBH.out j hj (by have := HK1.out; omega)
        case measure => simp [intOf]; have := HK1.out; omega
      | false =>
        rw [← HA.out]
        have HSP := Lib.hid (show spot m x = k from spot_stop HR.out.ris (by have := HR.out.len; omega) (fun j hj hk => HBH.out j hj hk) (fun h => by
          have e : k - 1 = k1 := by have := HK1.out; omega
          simp only [e]
          exact HBL.out _))
        clear HBH HBL hkm hkn hkn' hkp HB
        by_cases hck : k = c
        · subst hck
          have hkl : k ≤ m.length := by have := HR.out.len; omega
          have hbw := (HB1.out.trans HB2.out (fun _ _ h => h))
          have hx2 := HX.out.but HB2.out (fun h => h)
          have hxs := HX.out.lt
          have hws : W1.heap.size ≤ w2.heap.size := HB2.out.size
          obtain ⟨W3, hW3⟩ : ∃ W3, W3 = w2.alloc (.cells #[] 35) := ⟨_, rfl⟩
          have hb3 : But (fun _ => False) w2 W3 := by rw [hW3]; exact (But.refl _ w2).alloc _
          have hbw3 := hbw.trans hb3 (fun _ _ h => h)
          have HS3 := Lib.hid (show Sees W3 2 (.slice a k k) k (rowI (m.take k)) from Shows.sees (Shows.take (HR.out.shows.but hbw3 (fun _ _ _ h => h))) (by rw [List.length_take]; omega) HR.out.none_)
          have HO3 := Lib.hid (show W3.ownsRow w2.heap.size 35 2 (.slice (some ⟨w2.heap.size, 0, none⟩) 0 0) 0 [] from ⟨rfl, .inr ⟨_, 0, #[], rfl, Nat.le_refl _, by rw [hW3]; exact Blk.new w2 _ _, Nat.le_refl _, Nat.zero_le _, rfl, rfl⟩⟩)
          have HX3 := Lib.hid (hx2.but hb3 (fun h => h))
          have HB3 := Lib.hid (show But (fun k => w2.heap.size ≤ k) W3 W3 from But.refl _ _)
          have HBW3 := Lib.hid hbw3
          have HW3 := Lib.hid hW3
          have HS23 := Lib.hid hb3.size
          have HXS := Lib.hid (show w.heap.size < w2.heap.size by omega)
          have hcn := HR.out.le
          clear hbw hx2 hxs hws hb3 hbw3 hW3
          go_wp2_with (first
            | (at_builtin
               change wpList _ _ _ _ _ (w2.alloc (.cells #[] 35))
               rw [← HW3.out]
               refine wpList_append_onto rfl _ _ _ rfl w2.heap.size 35 i0 _ 2 24 Try.underlying26 hi0 hz0 hz1 hz2 rfl (by omega) (.slice (some ⟨w2.heap.size, 0, none⟩) 0 0) 0 [] rfl HO3.out (.slice a k k) k (rowI (m.take k)) rfl HS3.out (rowI_one _) (by unfold maxLen; omega) (by omega) HS23.out ?_
               intro v4 w4 ho4 hon4
               rw [Nat.zero_add, List.nil_append] at ho4
               obtain ⟨a4, c4, rfl⟩ := own_slice ho4
               have hb4 : But (fun _ => False) w w4 := HBW3.out.trans hon4.but (fun i hi e => by
                 have e1 : i = w2.heap.size := Option.some.inj e
                 have := HXS.out
                 omega)
               have hx4 := HX3.out.but hon4.but (fun e => by
                 have e1 : w.heap.size = w2.heap.size := Option.some.inj e
                 have := HXS.out
                 omega)
               obtain ⟨W5, hW5⟩ : ∃ W5, W5 = w4.alloc (.cells #[.int .u64 (x.time : Int), .string x.key] 35) := ⟨_, rfl⟩
               have hb5 : But (fun _ => False) w4 W5 := by rw [hW5]; exact (But.refl _ w4).alloc _
               have x4 : w4.cell? ⟨w.heap.size, 0, none⟩ = some (.int .u64 (x.time : Int)) := hx4.cell 0
               have x5 : w4.cell? ⟨w.heap.size, 1, none⟩ = some (.string x.key) := hx4.cell 1
               have HO5 := Lib.hid (ownsRow_but ho4 hb5 (fun _ _ h => h))
               have HB5 := Lib.hid (hb4.trans hb5 (fun _ _ h => h))
               have HE5 := Lib.hid (show Sees W5 2 (.slice (some ⟨w4.heap.size, 0, none⟩) 1 1) 1 (icells x) by rw [hW5]; exact sees_item w4 x _ _ _ rfl)
               have HS5 := Lib.hid (show w2.heap.size ≤ W5.heap.size by have h1 := hb5.size; have h2 := hon4.grown.size; have h3 := HS23.out; omega)
               have HW5 := Lib.hid hW5
               clear ho4 hon4 hb4 hb5 hx4 hW5)
            | (at_builtin
               change wpList _ _ _ _ _ (w4.alloc (.cells #[.int .u64 (x.time : Int), .string x.key] 35))
               rw [← HW5.out]
               refine wpList_append_onto rfl _ _ _ rfl w2.heap.size 35 i0 _ 2 24 Try.underlying26 hi0 hz0 hz1 hz2 rfl (by omega) (.slice a4 k c4) k (rowI (m.take k)) rfl HO5.out (.slice (some ⟨w4.heap.size, 0, none⟩) 1 1) 1 (icells x) rfl HE5.out (icells_one x) (by unfold maxLen; omega) (by omega) HS5.out ?_
               intro v6 w6 ho6 hon6
               rw [rowI_snoc] at ho6
               have hb6 : But (fun _ => False) w w6 := HB5.out.trans hon6.but (fun i hi e => by
                 have := (HO5.out.lt i e.symm).1
                 have := HXS.out
                 omega)
               obtain ⟨a6, c6, rfl⟩ := own_slice ho6
               have HO6 := Lib.hid ho6
               have HB6 := Lib.hid hb6
               have HS6 := Lib.hid (show w2.heap.size ≤ w6.heap.size by have h2 := hon6.grown.size; have h3 := HS5.out; omega)
               have HR6 := Lib.hid (HR.out.but hb6 (fun _ _ _ _ h => h))
               clear ho6 hon6 hb6 x4 x5)
            | (at_builtin
               refine wpList_append_onto rfl _ _ _ rfl w2.heap.size 35 i0 _ 2 24 Try.underlying26 hi0 hz0 hz1 hz2 rfl (by omega) (.slice a6 (k + 1) c6) (k + 1) (rowI (m.take k ++ [x])) rfl HO6.out (.slice _ 0 _) 0 (rowI (m.drop k)) rfl (by have e := HR6.out.rest hk (.inl ⟨rfl, rfl, rfl⟩); rw [show n - k = 0 by omega] at e; exact e) (rowI_one _) (by unfold maxLen; omega) (by omega) HS6.out ?_
               intro v8 w8 ho8 hon8
               have HB8 := Lib.hid (show But (fun _ => False) w w8 from HB6.out.trans hon8.but (fun i hi e => by have := (HO6.out.lt i e.symm).1; have := HXS.out; omega))
               have HE8 := Lib.hid (HR6.out.made (B := w2.heap.size) (v8 := v8) (w8 := w8) HSP.out hk (by have := HXS.out; omega) (by rw [show n - k = 0 by omega]; exact ho8))
               clear ho8 hon8))
          all_goals (obtain ⟨a8, c8, rfl, hR8⟩ := HE8.out; have HR8 := Lib.hid hR8; clear hR8; go_wp2_with fail; go_ret; exact ⟨a8, c8, rfl, HR8.out, HB8.out⟩)
        · have hcc : ¬ c = k := fun e => hck e.symm
          clear hck
          have hkl : k ≤ m.length := by have := HR.out.len; omega
          have hbw := (HB1.out.trans HB2.out (fun _ _ h => h))
          have hx2 := HX.out.but HB2.out (fun h => h)
          have hxs := HX.out.lt
          have hws : W1.heap.size ≤ w2.heap.size := HB2.out.size
          obtain ⟨W3, hW3⟩ : ∃ W3, W3 = w2.alloc (.cells #[] 35) := ⟨_, rfl⟩
          have hb3 : But (fun _ => False) w2 W3 := by rw [hW3]; exact (But.refl _ w2).alloc _
          have hbw3 := hbw.trans hb3 (fun _ _ h => h)
          have HS3 := Lib.hid (show Sees W3 2 (.slice a k c) k (rowI (m.take k)) from Shows.sees (Shows.take (HR.out.shows.but hbw3 (fun _ _ _ h => h))) (by rw [List.length_take]; omega) HR.out.none_)
          have HO3 := Lib.hid (show W3.ownsRow w2.heap.size 35 2 (.slice (some ⟨w2.heap.size, 0, none⟩) 0 0) 0 [] from ⟨rfl, .inr ⟨_, 0, #[], rfl, Nat.le_refl _, by rw [hW3]; exact Blk.new w2 _ _, Nat.le_refl _, Nat.zero_le _, rfl, rfl⟩⟩)
          have HX3 := Lib.hid (hx2.but hb3 (fun h => h))
          have HB3 := Lib.hid (show But (fun k => w2.heap.size ≤ k) W3 W3 from But.refl _ _)
          have HBW3 := Lib.hid hbw3
          have HW3 := Lib.hid hW3
          have HS23 := Lib.hid hb3.size
          have HXS := Lib.hid (show w.heap.size < w2.heap.size by omega)
          have hkc : k ≤ c := by have := HR.out.le; omega
          have hcn := HR.out.le
          clear hbw hx2 hxs hws hb3 hbw3 hW3
          go_wp2_with (first
            | (at_builtin
               change wpList _ _ _ _ _ (w2.alloc (.cells #[] 35))
               rw [← HW3.out]
               refine wpList_append_onto rfl _ _ _ rfl w2.heap.size 35 i0 _ 2 24 Try.underlying26 hi0 hz0 hz1 hz2 rfl (by omega) (.slice (some ⟨w2.heap.size, 0, none⟩) 0 0) 0 [] rfl HO3.out (.slice a k c) k (rowI (m.take k)) rfl HS3.out (rowI_one _) (by unfold maxLen; omega) (by omega) HS23.out ?_
               intro v4 w4 ho4 hon4
               rw [Nat.zero_add, List.nil_append] at ho4
               obtain ⟨a4, c4, rfl⟩ := own_slice ho4
               have hb4 : But (fun _ => False) w w4 := HBW3.out.trans hon4.but (fun i hi e => by
                 have e1 : i = w2.heap.size := Option.some.inj e
                 have := HXS.out
                 omega)
               have hx4 := HX3.out.but hon4.but (fun e => by
                 have e1 : w.heap.size = w2.heap.size := Option.some.inj e
                 have := HXS.out
                 omega)
               obtain ⟨W5, hW5⟩ : ∃ W5, W5 = w4.alloc (.cells #[.int .u64 (x.time : Int), .string x.key] 35) := ⟨_, rfl⟩
               have hb5 : But (fun _ => False) w4 W5 := by rw [hW5]; exact (But.refl _ w4).alloc _
               have x4 : w4.cell? ⟨w.heap.size, 0, none⟩ = some (.int .u64 (x.time : Int)) := hx4.cell 0
               have x5 : w4.cell? ⟨w.heap.size, 1, none⟩ = some (.string x.key) := hx4.cell 1
               have HO5 := Lib.hid (ownsRow_but ho4 hb5 (fun _ _ h => h))
               have HB5 := Lib.hid (hb4.trans hb5 (fun _ _ h => h))
               have HE5 := Lib.hid (show Sees W5 2 (.slice (some ⟨w4.heap.size, 0, none⟩) 1 1) 1 (icells x) by rw [hW5]; exact sees_item w4 x _ _ _ rfl)
               have HS5 := Lib.hid (show w2.heap.size ≤ W5.heap.size by have h1 := hb5.size; have h2 := hon4.grown.size; have h3 := HS23.out; omega)
               have HW5 := Lib.hid hW5
               clear ho4 hon4 hb4 hb5 hx4 hW5)
            | (at_builtin
               change wpList _ _ _ _ _ (w4.alloc (.cells #[.int .u64 (x.time : Int), .string x.key] 35))
               rw [← HW5.out]
               refine wpList_append_onto rfl _ _ _ rfl w2.heap.size 35 i0 _ 2 24 Try.underlying26 hi0 hz0 hz1 hz2 rfl (by omega) (.slice a4 k c4) k (rowI (m.take k)) rfl HO5.out (.slice (some ⟨w4.heap.size, 0, none⟩) 1 1) 1 (icells x) rfl HE5.out (icells_one x) (by unfold maxLen; omega) (by omega) HS5.out ?_
               intro v6 w6 ho6 hon6
               rw [rowI_snoc] at ho6
               have hb6 : But (fun _ => False) w w6 := HB5.out.trans hon6.but (fun i hi e => by
                 have := (HO5.out.lt i e.symm).1
                 have := HXS.out
                 omega)
               obtain ⟨a6, c6, rfl⟩ := own_slice ho6
               have HO6 := Lib.hid ho6
               have HB6 := Lib.hid hb6
               have HS6 := Lib.hid (show w2.heap.size ≤ w6.heap.size by have h2 := hon6.grown.size; have h3 := HS5.out; omega)
               have HR6 := Lib.hid (HR.out.but hb6 (fun _ _ _ _ h => h))
               clear ho6 hon6 hb6 x4 x5)
            | (at_builtin
               refine wpList_append_onto rfl _ _ _ rfl w2.heap.size 35 i0 _ 2 24 Try.underlying26 hi0 hz0 hz1 hz2 rfl (by omega) (.slice a6 (k + 1) c6) (k + 1) (rowI (m.take k ++ [x])) rfl HO6.out (.slice _ (n - k) _) (n - k) (rowI (m.drop k)) rfl (HR6.out.rest hk (by exact .inr ⟨rfl, hcc⟩)) (rowI_one _) (by unfold maxLen; omega) (by omega) HS6.out ?_
               intro v8 w8 ho8 hon8
               have HB8 := Lib.hid (show But (fun _ => False) w w8 from HB6.out.trans hon8.but (fun i hi e => by have := (HO6.out.lt i e.symm).1; have := HXS.out; omega))
               have HE8 := Lib.hid (HR6.out.made HSP.out hk (by have := HXS.out; omega) ho8)
               clear ho8 hon8))
          all_goals (obtain ⟨a8, c8, rfl, hR8⟩ := HE8.out; have HR8 := Lib.hid hR8; clear hR8; go_wp2_with fail; go_ret; exact ⟨a8, c8, rfl, HR8.out, HB8.out⟩)
end
end Go.Proofs.Ytdkknjgjogekiaa.Exp
