/- Contracts of the methods Push and Pop of the heap's places. -/
import Derived.Test.YtdkknjgjogekiaaExpLess
namespace Go.Proofs.Ytdkknjgjogekiaa.Exp
open Go.Proofs.Ytdkknjgjogekiaa.Mem
open Go.ChangeShapes Go.WideShapes Go.ChangeAt Go.RowKit
set_option linter.unusedVariables false
set_option linter.unusedSimpArgs false
theorem rowI_snoc (l : List It) (x : It) : rowI l ++ icells x = rowI (l ++ [x]) := by simp [rowI, List.flatMap_append]
theorem sees_item (w : World) (x : It) (t : TypeId) (fr : Nat × Nat) (g : Nat) (hg : g = w.heap.size) : Sees (w.alloc (.cells (icells x).toArray t fr)) 2 (.slice (some ⟨g, 0, none⟩) 1 1) 1 (icells x) := by
  subst hg
  refine .inr ⟨_, _, rfl, by simp [icells_length], fun j u hu => ?_⟩
  refine ⟨by simp, ?_⟩
  rw [add_none, Nat.zero_add, World.cell?_alloc_mark]
  simpa using hu
def ival (x : It) : Value := .agg #[.int .u64 (x.time : Int), .string x.key]
theorem assert_item (v : Value) (w : World) : (Instr.typeAssert (.iface 29 v) 20 29 false).run Try.prog w = .ok v w := by kernel_rfl
theorem own_slice {w : World} {B n : Nat} {e : TypeId} {v : Value} {xs : List Value} (h : w.ownsRow B e 2 v n xs) : ∃ a c, v = .slice a n c := by
  rcases h.2 with ⟨h1, h2⟩ | ⟨g, cap, cur, h1, _⟩
  · exact ⟨none, 0, by rw [h1, h2]⟩
  · exact ⟨_, _, h1⟩
section
variable {w : World} {B p : Nat} {v : Value} {l : List It}
theorem onto_next {w w' : World} {v v' : Value} (h : Onto w w' v v') : Next w v v' := h.own
set_option maxRecDepth 100000 in
set_option maxHeartbeats 1000000 in
theorem ppush_any (h : HAt w B p v l) (x : It) (hl : l.length + 1 ≤ 1000) :
    Calls Try.prog 41 #[.pointer (some ⟨p, 0, none⟩), .iface 29 (.agg #[.int .u64 (x.time : Int), .string x.key])] w fun e w' => e = .returned (.tuple #[]) ∧ ∃ v', HAt w' B p v' (l ++ [x]) ∧ But (Foot p v) w w' ∧ Next w v v' := by
  obtain ⟨i0, hi0, hz⟩ := Option.map_eq_some_iff.1 item_info
  simp only [Prod.mk.injEq] at hz
  obtain ⟨hz0, hz1, hz2⟩ := hz
  have hta := assert_item
  have H := Lib.hid h
  obtain ⟨n, hn⟩ : ∃ n, n = l.length := ⟨_, rfl⟩
  have HN := Lib.hid hn
  rw [← hn] at hl
  have hpb := h.lt
  have hB := h.base
  have HS0 := Lib.hid (show w.drew.cell? ⟨p, 0, none⟩ = some v from h.blk.cell 0)
  have HO0 := Lib.hid (show w.drew.ownsRow B 29 2 v l.length (rowI l) from h.own)
  clear h hn
  go_enter Try.func41, Try.ntmps41
  go_wp2_with fail
  refine Late.region_goes (fun V => V.cell? ⟨p, 0, none⟩ = some v) (fun i => i == 9) (by kernel_rfl) ?_ (fun hH => ?_)
  · exact HS0.out
  refine Late.Goes.takeT (i := 0) (v := ?_) (by simp only [List.getElem?_toArray, List.getElem?_cons_succ, List.getElem?_cons_zero]; rfl) (by kernel_rfl) (by kernel_rfl) (by kernel_rfl) (by kernel_rfl) (by kernel_rfl) (by exact fun _ _ _ h => h) (Or.inl ⟨by rfl, ?_⟩) hH ?_
  rotate_left
  · (intro wy hSw; (try dsimp only at hSw); skip; go_simp; try (with_reducible rfl))
  try simp only [Act.put, List.setIfInBounds_toArray, List.set_cons_zero, List.set_cons_succ]
  refine Late.Goes.takeT (i := 1) (v := ?_) (by simp only [List.getElem?_toArray, List.getElem?_cons_succ, List.getElem?_cons_zero]; rfl) (by kernel_rfl) (by kernel_rfl) (by kernel_rfl) (by kernel_rfl) (by kernel_rfl) (by exact fun _ _ _ h => h) (Or.inl ⟨by rfl, ?_⟩) hH ?_
  rotate_left
  · (intro wy hSw; (try dsimp only at hSw); skip; go_simp; try (with_reducible rfl))
  try simp only [Act.put, List.setIfInBounds_toArray, List.set_cons_zero, List.set_cons_succ]
  refine Late.Goes.takeT (i := 2) (v := ?_) (by simp only [List.getElem?_toArray, List.getElem?_cons_succ, List.getElem?_cons_zero]; rfl) (by kernel_rfl) (by kernel_rfl) (by kernel_rfl) (by kernel_rfl) (by kernel_rfl) (by exact fun _ _ _ h => h) (Or.inl ⟨by rfl, ?_⟩) hH ?_
  rotate_left
  · (intro wy hSw; (try dsimp only at hSw); skip; go_simp; try (with_reducible rfl))
  try simp only [Act.put, List.setIfInBounds_toArray, List.set_cons_zero, List.set_cons_succ]
  refine Late.Goes.takeT (i := 3) (v := ?_) (by simp only [List.getElem?_toArray, List.getElem?_cons_succ, List.getElem?_cons_zero]; rfl) (by kernel_rfl) (by kernel_rfl) (by kernel_rfl) (by kernel_rfl) (by kernel_rfl) (by exact fun _ _ _ h => h) (Or.inl ⟨by rfl, ?_⟩) hH ?_
  rotate_left
  · (intro wy hSw; (try dsimp only at hSw); skip; go_simp; try (with_reducible rfl))
  try simp only [Act.put, List.setIfInBounds_toArray, List.set_cons_zero, List.set_cons_succ]
  refine Late.Goes.takeT (i := 4) (v := ?_) (by simp only [List.getElem?_toArray, List.getElem?_cons_succ, List.getElem?_cons_zero]; rfl) (by kernel_rfl) (by kernel_rfl) (by kernel_rfl) (by kernel_rfl) (by kernel_rfl) (by exact fun _ _ _ h => h) (Or.inl ⟨by rfl, ?_⟩) hH ?_
  rotate_left
  · (intro wy hSw; (try dsimp only at hSw); skip; go_simp; try (with_reducible rfl))
  try simp only [Act.put, List.setIfInBounds_toArray, List.set_cons_zero, List.set_cons_succ]
  refine Late.Goes.takeT (i := 5) (v := ?_) (by simp only [List.getElem?_toArray, List.getElem?_cons_succ, List.getElem?_cons_zero]; rfl) (by kernel_rfl) (by kernel_rfl) (by kernel_rfl) (by kernel_rfl) (by kernel_rfl) (by exact fun _ _ _ h => h) (Or.inl ⟨by rfl, ?_⟩) hH ?_
  rotate_left
  · (intro wy hSw; (try dsimp only at hSw); skip; go_simp; try (with_reducible rfl))
  try simp only [Act.put, List.setIfInBounds_toArray, List.set_cons_zero, List.set_cons_succ]
  refine Late.Goes.one (i := 6) (by kernel_rfl) (by simp only [List.getElem?_toArray, List.getElem?_cons_succ, List.getElem?_cons_zero]; rfl) (fun K hK => ?_)
  clear hH
  go_simp
  have hb6 : But (fun _ => False) w (w.alloc (.cells #[.int .u64 (x.time : Int), .string x.key] 29)).drew := ((But.refl (fun _ => False) w).alloc (.cells #[.int .u64 (x.time : Int), .string x.key] 29)).drew
  have HS6 := Lib.hid (show (w.alloc (.cells #[.int .u64 (x.time : Int), .string x.key] 29)).drew.cell? ⟨p, 0, none⟩ = some v from (hb6.cell (p := ⟨p, 0, none⟩) hpb.1 (fun h => h)).trans HS0.out)
  have HH6 := Lib.hid (H.out.new hb6)
  have HE6 := Lib.hid (show Sees (w.alloc (.cells #[.int .u64 (x.time : Int), .string x.key] 29)).drew 2 (.slice (some ⟨w.heap.size, 0, none⟩) 1 1) 1 (icells x) from sees_item w x _ _ _ rfl)
  have HB6 := Lib.hid hb6
  clear hb6
  generalize (w.alloc (.cells #[.int .u64 (x.time : Int), .string x.key] 29)).drew = W1 at HS6 HH6 HE6 HB6 ⊢
  refine hK.out _ _ ?_ (fun hH => ?_)
  · exact fun _ => HS6.out
  clear hK K
  have hH := hH rfl
  try simp only [Act.put, List.setIfInBounds_toArray, List.set_cons_zero, List.set_cons_succ]
  refine Late.Goes.one (i := 7) (by kernel_rfl) (by simp only [List.getElem?_toArray, List.getElem?_cons_succ, List.getElem?_cons_zero]; rfl) (fun K hK => ?_)
  clear hH
  refine step_append_onto rfl (.tmp 7) (.tmp 10) _ rfl B 29 i0 _ 2 24 Try.underlying45 hi0 hz0 hz1 hz2 rfl (by omega) v l.length (rowI l) rfl HH6.out.own (.slice (some ⟨w.heap.size, 0, none⟩) 1 1) 1 (icells x) rfl HE6.out (icells_one x) (by rw [← HN.out]; unfold maxLen; omega) (by rw [← HN.out]; omega) (by have := HB6.out.size; omega) ?_
  intro v2 w2 ho2 hon2
  obtain ⟨a2, c2, rfl⟩ := own_slice ho2
  rw [rowI_snoc] at ho2
  have hne : ∀ k, v.ownBlock = some k → k ≠ p := fun k hk => (hpb.2 k hk).2.2
  have hs2 := (hon2.but.cell (p := ⟨p, 0, none⟩) (by have := HB6.out.size; have := hpb.1; show p < _; omega) (fun e => hne p e.symm rfl)).trans HS6.out
  have hbk2 := HH6.out.blk.but hon2.but (fun e => hne p e.symm rfl)
  have hb2 : But (Foot p v) w w2 := (HB6.out.mono (fun _ _ h => h.elim)).trans hon2.but (fun i _ e => .inr e)
  have hn2 : Next w v (.slice a2 (l.length + 1) c2) := by
    rcases hon2.own with h | h
    · exact .inl h
    · exact .inr (fun k hk => Nat.le_trans HB6.out.size (h k hk))
  have HS2 := Lib.hid hs2
  have HK2 := Lib.hid hbk2
  have HB2 := Lib.hid hb2
  have HN2 := Lib.hid hn2
  have HO2 := Lib.hid ho2
  have hfr : w2.frozen? ⟨p, 0, none⟩ = false := hbk2.frozen 0
  clear hs2 hbk2 hb2 hn2 ho2 hon2 hne HS6 HH6 HE6 HB6 hz0 hz1 hz2 hi0
  refine hK.out _ _ ?_ (fun hH => ?_)
  · exact fun _ => HS2.out
  clear hK K
  have hH := hH rfl
  try simp only [Act.put, List.setIfInBounds_toArray, List.set_cons_zero, List.set_cons_succ]
  refine Late.Goes.takeT (i := 8) (v := ?_) (by simp only [List.getElem?_toArray, List.getElem?_cons_succ, List.getElem?_cons_zero]; rfl) (by kernel_rfl) (by kernel_rfl) (by kernel_rfl) (by kernel_rfl) (by kernel_rfl) (by exact fun _ _ _ h => h) (Or.inl ⟨by rfl, ?_⟩) hH ?_
  rotate_left
  · (intro wy hSw; (try dsimp only at hSw); skip; go_simp; try (with_reducible rfl))
  try simp only [Act.put, List.setIfInBounds_toArray, List.set_cons_zero, List.set_cons_succ]
  refine Late.Goes.one (i := 9) (by kernel_rfl) (by simp only [List.getElem?_toArray, List.getElem?_cons_succ, List.getElem?_cons_zero]; rfl) (fun K hK => ?_)
  clear hH
  have k2 := HS2.out
  go_simp
  have HH3 := Lib.hid (show HAt (w2.setCell ⟨p, 0, none⟩ (.slice a2 (l.length + 1) c2)) B p (.slice a2 (l.length + 1) c2) (l ++ [x]) from ⟨HK2.out.set_ 0 _, by
    have := ownsRow_but HO2.out ((But.refl (fun k => k = p) w2).setCell (p := ⟨p, 0, none⟩) rfl (.slice a2 (l.length + 1) c2)) (fun k hk e => own_blk_ne HO2.out HK2.out (by decide) (by rw [hk, e]))
    rwa [show (l ++ [x]).length = l.length + 1 by simp], hB, by rw [List.length_append, ← HN.out]; exact hl⟩)
  have HB3 := Lib.hid (HB2.out.setCell (p := ⟨p, 0, none⟩) (.inl rfl) (.slice a2 (l.length + 1) c2))
  clear HK2 HO2 HB2 k2
  refine hK.out _ _ ?_ (fun _ => ?_)
  · exact fun h => by cases h
  clear hK K
  try simp only [Act.put, List.setIfInBounds_toArray, List.set_cons_zero, List.set_cons_succ]
  refine Late.Goes.done (by kernel_rfl) ?_ _
  go_wp2
  go_end0
  exact ⟨rfl, _, HH3.out, HB3.out, HN2.out⟩
set_option maxRecDepth 100000 in
set_option maxHeartbeats 1000000 in
theorem ppop_any {x : It} (h : HAt w B p v (l ++ [x])) :
    Calls Try.prog 40 #[.pointer (some ⟨p, 0, none⟩)] w fun e w' => e = .returned (.iface 29 (.agg #[.int .u64 (x.time : Int), .string x.key])) ∧ ∃ v', HAt w' B p v' l ∧ But (Foot p v) w w' ∧ v'.ownBlock = v.ownBlock := by
  have hlen : (l ++ [x]).length = l.length + 1 := by simp
  obtain ⟨g, cap, rest, hv, hc1, hc2, hBg, hrest, hrow⟩ := h.row (by omega)
  have hpb := h.lt
  have hB := h.base
  have hf := h.few
  have hlx : look (l ++ [x]) l.length = x := by simp [look, List.getD]
  rw [hlen] at hv hc1 hrest hf
  subst hv
  have hgp : g ≠ p := (hpb.2 g rfl).2.2
  have hrg := hrow.range (i := l.length) (by omega)
  rw [hlx] at hrg
  have hth := hrow.there (i := l.length) (by omega)
  obtain ⟨n, hn⟩ : ∃ n, n = l.length := ⟨_, rfl⟩
  have k0 : w.cell? ⟨p, 0, none⟩ = some (.slice (some ⟨g, 0, none⟩) (l.length + 1) cap) := h.blk.cell 0
  obtain ⟨W1, hW1⟩ : ∃ W1, W1 = w.alloc (.cells #[.int .u64 (x.time : Int), .string x.key] 29) := ⟨_, rfl⟩
  have hb1 : But (fun _ => False) w W1 := by rw [hW1]; exact (But.refl (fun _ => False) w).alloc _
  have hX1 : Blk W1 w.heap.size 29 #[.int .u64 (x.time : Int), .string x.key] := by rw [hW1]; exact Blk.new _ _ _
  have hrow1 := hrow.but hb1 (fun h => h)
  have hblk1 := h.blk.but hb1 (fun h => h)
  have hth1 := hrow1.there (i := l.length) (by omega)
  have hrow2 := hrow1.put (i := l.length) (by omega) nil
  obtain ⟨W2, hW2⟩ : ∃ W2, W2 = W1.setCells g (l.length * 2) (icells nil) := ⟨_, rfl⟩
  have hb2 : But (fun k => k = g) W1 W2 := by rw [hW2]; exact but_setCells _ _ _ _
  have hblk2 := hblk1.but hb2 (fun e => hgp e.symm)
  have hX2 := hX1.but hb2 (fun e => by have := hrow.blk.lt; omega)
  rw [← hW2] at hrow2
  obtain ⟨W3, hW3⟩ : ∃ W3, W3 = W2.setCell ⟨p, 0, none⟩ (.slice (some ⟨g, 0, none⟩) l.length cap) := ⟨_, rfl⟩
  have hb3 : But (fun k => k = p) W2 W3 := by rw [hW3]; exact (But.refl (fun k => k = p) W2).setCell (p := ⟨p, 0, none⟩) rfl _
  have hX3 := hX2.but hb3 (fun e => by have := hpb.1; omega)
  have hrow3 := hrow2.but hb3 hgp
  have hblk3 : Blk W3 p 47 #[.slice (some ⟨g, 0, none⟩) l.length cap] := by rw [hW3]; exact hblk2.set_ 0 _
  have hset : (l ++ [x]).set l.length nil = l ++ [nil] := by simp
  rw [hset] at hrow3
  have hrow4 : IRow W3 29 g l (icells nil ++ rest) := ⟨by
    have := hrow3.blk
    rw [← rowI_snoc, List.append_assoc] at this
    exact this⟩
  have HEND := Lib.hid (show ∃ v', HAt W3 B p v' l ∧ But (Foot p (.slice (some ⟨g, 0, none⟩) (l.length + 1) cap)) w W3 ∧ v'.ownBlock = (Value.slice (some ⟨g, 0, none⟩) (l.length + 1) cap).ownBlock from by
    refine ⟨.slice (some ⟨g, 0, none⟩) l.length cap, ⟨hblk3, own_of_row hrow4 hBg (by omega) hc2 ?_, hB, by omega⟩, ?_, rfl⟩
    · rw [List.length_append, icells_length, hrest]; omega
    · exact ((hb1.mono (fun _ _ h => h.elim)).trans hb2 (fun i _ e => .inr (by rw [e]; rfl))).trans hb3 (fun i _ e => .inl e))
  have k1 : W1.cell? ⟨p, 0, none⟩ = some (.slice (some ⟨g, 0, none⟩) (l.length + 1) cap) := hblk1.cell 0
  have k2 : W2.cell? ⟨p, 0, none⟩ = some (.slice (some ⟨g, 0, none⟩) (l.length + 1) cap) := hblk2.cell 0
  have f2 : W2.frozen? ⟨p, 0, none⟩ = false := hblk2.frozen 0
  have x0 : W3.cell? ⟨w.heap.size, 0, none⟩ = some (.int .u64 (x.time : Int)) := hX3.cell 0
  have x1 : W3.cell? ⟨w.heap.size, 1, none⟩ = some (.string x.key) := hX3.cell 1
  have HT1 := Lib.hid hth1
  have HW1 := Lib.hid hW1
  have HW2 := Lib.hid hW2
  have HW3 := Lib.hid hW3
  obtain ⟨n, hn⟩ : ∃ n, n = l.length := ⟨_, rfl⟩
  rw [← hn] at k0 k1 k2 hc1 hf hrg HEND HT1 HW2 HW3
  have HRG := Lib.hid hrg
  have hn3 : ((n + 1 : Nat) : Int) = (n : Int) + 1 := by omega
  clear h hrow hth hrg hn hpb hb1 hX1 hrow1 hblk1 hth1 hrow2 hb2 hblk2 hX2 hb3 hX3 hrow3 hblk3 hset hrow4 hW1 hW2 hW3 hlen hlx hrest
  go_enter Try.func40, Try.ntmps40
  rw [HW1.out] at k1
  rw [HW3.out] at x0 x1
  go_wp2_with (first
    | (refine wpList_load_mid rfl 29 _ rfl g (n * 2) rfl [.int .u64 (x.time : Int), .string x.key] _ HRG.out Try.underlying29 rfl item_size ?_)
    | (refine wpList_store_mid rfl 29 _ _ rfl g (n * 2) (icells nil).toArray rfl rfl (by rw [HW1.out] at HT1; simpa [icells_length] using HT1.out) (by simp only [List.size_toArray, icells_length]; exact item_size) (all_oneCell_toArray (icells_one nil)) ?_
       change wpList _ _ _ _ _ ((w.alloc (.cells #[.int .u64 (x.time : Int), .string x.key] 29)).setCells g (n * 2) (icells nil))
       rw [← HW1.out, ← HW2.out]
       clear k0 k1))
  go_ret
  refine ⟨rfl, ?_⟩
  rw [← HW3.out]
  exact HEND.out
end
end Go.Proofs.Ytdkknjgjogekiaa.Exp
