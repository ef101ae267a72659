/- The document's drop: its walk. MADE BY gen-drop.py -/
import Derived.Test.YtiaaadeenbjciaaRefPutEnd
import Derived.Test.YtiaaadeenbjciaaLate
import Derived.IntWalk
namespace Go.Proofs.Ytiaaadeenbjciaa.Disk
open Go.Proofs.Ytiaaadeenbjciaa Go.Proofs.Ytiaaadeenbjciaa.Mem
open Go.ChangeShapes Go.WideShapes Go.ChangeAt Go.RowKit
open Go.Proofs (encStr)
set_option linter.unusedVariables false
set_option linter.unusedSimpArgs false
section
variable {w w' : World} {rp : Nat} {S : St} {lv : Value} {rs : List (Nm × REnt)} {pl : Bool} {lf kp : Int}
set_option maxRecDepth 100000 in
set_option maxHeartbeats 1000000 in
theorem rdrop_none (h : RAt w rp S lv rs pl lf kp) (hn : rs.length ≤ 1000000) (s : ByteArray) (hl : look s.data.toList rs = none) :
    Calls Try.prog 37 #[.pointer (some ⟨rp, 0, none⟩), .string s] w fun x w' => x = .returned (.tuple #[]) ∧ ∃ n, w' = w.drewN n := by
  have hf := rfind_at h hn s
  rw [hl] at hf
  have hf2 := Lib.hid hf
  clear hf h hl hn
  go_enter Try.func37, Try.ntmps37
  go_wp2_with fail
  refine hf2.out.mono ?_
  rintro x w' ⟨rfl, nd, rfl⟩
  go_wp2_with fail
  go_end0
  exact ⟨rfl, nd, rfl⟩
set_option maxRecDepth 100000 in
set_option maxHeartbeats 4000000 in
theorem rdrop_a {g n cap : Nat} (h : RAt w rp S (.slice (some ⟨g, 0, none⟩) n cap) rs pl lf kp) (hn : rs.length ≤ 1000000) (s : ByteArray) {e : REnt} (hl : look s.data.toList rs = some e) (hc : cap ≠ pos s.data.toList rs + 1) :
    Calls Try.prog 37 #[.pointer (some ⟨rp, 0, none⟩), .string s] w fun x w' => x = .returned (.tuple #[]) ∧ ∃ w1 v1, w' = w1.setCell ⟨rp, 1, none⟩ v1 ∧ Below w.heap.size w w1 ∧ w1.ownsRow w.heap.size 46 3 v1 (rs.length - 1) (rcells (rs.take (pos s.data.toList rs)) ++ rcells (rs.drop (pos s.data.toList rs + 1))) := by
  obtain ⟨i0, hi0, hz0, hz1, hz2⟩ := info_parts file_info
  have hf := rfind_at h hn s
  rw [hl] at hf
  have hP0 := at_pos h.riseR hl
  obtain ⟨P, hP⟩ : ∃ P, P = pos s.data.toList rs := ⟨_, rfl⟩
  rw [← hP] at hf hc hP0 ⊢
  have hf2 := Lib.hid hf
  have hPl : P < rs.length := get_lt hP0
  obtain ⟨e0, hlc, hcm⟩ : rs.length = n ∧ n ≤ cap ∧ cap ≤ maxLen := by
    obtain ⟨a, c, e1, e2, e3, _⟩ := h.shape
    injection e1 with e4 e5 e6
    subst e5 e6
    exact ⟨rfl, e2, e3⟩
  have b0 : (cap) ≤ 9223372036854775807 := by simpa [maxLen] using hcm
  have b1 : (P : Int) + 1 ≤ ((n : Int)) := by omega
  have b2 : ((n : Int)) ≤ ((cap : Int)) := by omega
  have b3 : (P : Int) ≤ ((cap : Int)) := by omega
  have b4 : (P : Int) ≤ 1000000 := by omega
  have b5 : (P : Int) ≤ ((n : Int)) := by omega
  have hPM : P ≤ 1000000 := by omega
  have HROW := Lib.hid (show w.ownsRow 0 46 3 (.slice (some ⟨g, 0, none⟩) (n) (cap)) (n) (rcells rs) by have hr := h.row; rw [e0] at hr; exact hr)
  have HONE := Lib.hid (rcells_one h.ents)
  have HBLK := Lib.hid h.blk
  have HN := Lib.hid hn
  have HPL := Lib.hid hPl
  have HE0 := Lib.hid e0
  have HLC := Lib.hid hlc
  have hlt := h.blk.lt
  clear hcm hn hPl h hP hf hl hP0 e0 hlc
  go_enter Try.func37, Try.ntmps37
  go_wp2_with fail
  refine hf2.out.mono ?_
  rintro x w' ⟨rfl, nd, rfl⟩
  have hbW : But (fun _ => False) w (w.drewN nd) := (But.refl _ w).drewN nd
  generalize w.drewN nd = W at hbW ⊢
  clear hf2
  go_wp2_with fail
  have c1 : W.cell? ⟨rp, 1, none⟩ = some (.slice (some ⟨g, 0, none⟩) (n) (cap)) := (HBLK.out.but hbW (fun e => e)).cell 1
  have HROW2 := Lib.hid (ownsRow_but HROW.out hbW (fun _ _ e => e))
  have HBW := Lib.hid (HBLK.out.but hbW (fun e => e))
  have HW := Lib.hid hbW
  have hltW : rp < W.heap.size := Nat.lt_of_lt_of_le hlt hbW.size
  have HC1 := Lib.hid c1
  have q1 : IntKind.i64.wrap ((P : Int) + 1) = (P : Int) + 1 := IntWalk.i64_in _ (by omega)
  have q2 : 0 ≤ (P : Int) + 1 := by omega
  have q3 : ((P : Int) + 1).toNat = P + 1 := by omega
  have HSEE := Lib.hid (show ∀ W', But (fun _ => False) W W' → ∀ y, y = Value.slice (some ⟨g, (P + 1) * 3, none⟩) (n - (P + 1)) (cap - (P + 1)) → Sees W' 3 y (n - (P + 1)) (rcells (rs.drop (P + 1))) from fun W' hb y e => e ▸ sees_back (ownsRow_but HROW2.out hb (fun _ _ e => e)) (by have := HPL.out; have := HE0.out; omega) (fun _ => rfl) _)
  clear hbW
  refine Late.region_goes (fun w' => w'.cell? ⟨rp, 1, none⟩ = some (.slice (some ⟨g, 0, none⟩) (n) (cap))) (fun i => i == 19) (by kernel_rfl) ?_ (fun hH => ?_)
  · exact c1
  refine Late.Goes.take (i := 0) (v := ?_) (by simp only [List.getElem?_toArray, List.getElem?_cons_succ, List.getElem?_cons_zero]; rfl) (by kernel_rfl) (by kernel_rfl) (by kernel_rfl) (by kernel_rfl) (by exact fun _ _ _ h => h) (Or.inl ⟨by rfl, ?_⟩) hH ?_
  rotate_left
  · (intro wy hSw; (try dsimp only at hSw); go_simp; try (with_reducible rfl))
  try simp only [Act.put, List.setIfInBounds_toArray, List.set_cons_zero, List.set_cons_succ]
  refine Late.Goes.take (i := 2) (v := ?_) (by simp only [List.getElem?_toArray, List.getElem?_cons_succ, List.getElem?_cons_zero]; rfl) (by kernel_rfl) (by kernel_rfl) (by kernel_rfl) (by kernel_rfl) (by exact fun _ _ _ h => h) (Or.inl ⟨by rfl, ?_⟩) hH ?_
  rotate_left
  · (intro wy hSw; (try dsimp only at hSw); go_simp; try (with_reducible rfl))
  try simp only [Act.put, List.setIfInBounds_toArray, List.set_cons_zero, List.set_cons_succ]
  refine Late.Goes.take (i := 3) (v := ?_) (by simp only [List.getElem?_toArray, List.getElem?_cons_succ, List.getElem?_cons_zero]; rfl) (by kernel_rfl) (by kernel_rfl) (by kernel_rfl) (by kernel_rfl) (by exact fun _ _ _ h => h) (Or.inl ⟨by rfl, ?_⟩) hH ?_
  rotate_left
  · (intro wy hSw; (try dsimp only at hSw); go_simp; try (with_reducible rfl))
  try simp only [Act.put, List.setIfInBounds_toArray, List.set_cons_zero, List.set_cons_succ]
  refine Late.Goes.take (i := 4) (v := ?_) (by simp only [List.getElem?_toArray, List.getElem?_cons_succ, List.getElem?_cons_zero]; rfl) (by kernel_rfl) (by kernel_rfl) (by kernel_rfl) (by kernel_rfl) (by exact fun _ _ _ h => h) (Or.inl ⟨by rfl, ?_⟩) hH ?_
  rotate_left
  · (intro wy hSw; (try dsimp only at hSw); go_simp; try (with_reducible rfl))
  try simp only [Act.put, List.setIfInBounds_toArray, List.set_cons_zero, List.set_cons_succ]
  refine Late.Goes.take (i := 5) (v := ?_) (by simp only [List.getElem?_toArray, List.getElem?_cons_succ, List.getElem?_cons_zero]; rfl) (by kernel_rfl) (by kernel_rfl) (by kernel_rfl) (by kernel_rfl) (by exact fun _ _ _ h => h) (Or.inl ⟨by rfl, ?_⟩) hH ?_
  rotate_left
  · (intro wy hSw; (try dsimp only at hSw); go_simp; try (with_reducible rfl))
  try simp only [Act.put, List.setIfInBounds_toArray, List.set_cons_zero, List.set_cons_succ]
  refine Late.Goes.take (i := 6) (v := ?_) (by simp only [List.getElem?_toArray, List.getElem?_cons_succ, List.getElem?_cons_zero]; rfl) (by kernel_rfl) (by kernel_rfl) (by kernel_rfl) (by kernel_rfl) (by exact fun _ _ _ h => h) (Or.inl ⟨by rfl, ?_⟩) hH ?_
  rotate_left
  · (intro wy hSw; (try dsimp only at hSw); go_simp; try (with_reducible rfl))
  try simp only [Act.put, List.setIfInBounds_toArray, List.set_cons_zero, List.set_cons_succ]
  refine Late.Goes.take (i := 7) (v := ?_) (by simp only [List.getElem?_toArray, List.getElem?_cons_succ, List.getElem?_cons_zero]; rfl) (by kernel_rfl) (by kernel_rfl) (by kernel_rfl) (by kernel_rfl) (by exact fun _ _ _ h => h) (Or.inl ⟨by rfl, ?_⟩) hH ?_
  rotate_left
  · (intro wy hSw; (try dsimp only at hSw); go_simp; try (with_reducible rfl))
  try simp only [Act.put, List.setIfInBounds_toArray, List.set_cons_zero, List.set_cons_succ]
  refine Late.Goes.take (i := 9) (v := ?_) (by simp only [List.getElem?_toArray, List.getElem?_cons_succ, List.getElem?_cons_zero]; rfl) (by kernel_rfl) (by kernel_rfl) (by kernel_rfl) (by kernel_rfl) (by exact fun _ _ _ h => h) (Or.inl ⟨by rfl, ?_⟩) hH ?_
  rotate_left
  · (intro wy hSw; (try dsimp only at hSw); go_simp; try (with_reducible rfl))
  try simp only [Act.put, List.setIfInBounds_toArray, List.set_cons_zero, List.set_cons_succ]
  refine Late.Goes.take (i := 10) (v := ?_) (by simp only [List.getElem?_toArray, List.getElem?_cons_succ, List.getElem?_cons_zero]; rfl) (by kernel_rfl) (by kernel_rfl) (by kernel_rfl) (by kernel_rfl) (by exact fun _ _ _ h => h) (Or.inl ⟨by rfl, ?_⟩) hH ?_
  rotate_left
  · (intro wy hSw; (try dsimp only at hSw); go_simp; try (with_reducible rfl))
  try simp only [Act.put, List.setIfInBounds_toArray, List.set_cons_zero, List.set_cons_succ]
  refine Late.Goes.take (i := 11) (v := ?_) (by simp only [List.getElem?_toArray, List.getElem?_cons_succ, List.getElem?_cons_zero]; rfl) (by kernel_rfl) (by kernel_rfl) (by kernel_rfl) (by kernel_rfl) (by exact fun _ _ _ h => h) (Or.inl ⟨by rfl, ?_⟩) hH ?_
  rotate_left
  · (intro wy hSw; (try dsimp only at hSw); go_simp; try (with_reducible rfl))
  try simp only [Act.put, List.setIfInBounds_toArray, List.set_cons_zero, List.set_cons_succ]
  refine Late.Goes.take (i := 12) (v := ?_) (by simp only [List.getElem?_toArray, List.getElem?_cons_succ, List.getElem?_cons_zero]; rfl) (by kernel_rfl) (by kernel_rfl) (by kernel_rfl) (by kernel_rfl) (by exact fun _ _ _ h => h) (Or.inl ⟨by rfl, ?_⟩) hH ?_
  rotate_left
  · (intro wy hSw; (try dsimp only at hSw); go_simp; try (with_reducible rfl))
  try simp only [Act.put, List.setIfInBounds_toArray, List.set_cons_zero, List.set_cons_succ]
  refine Late.Goes.take (i := 13) (v := ?_) (by simp only [List.getElem?_toArray, List.getElem?_cons_succ, List.getElem?_cons_zero]; rfl) (by kernel_rfl) (by kernel_rfl) (by kernel_rfl) (by kernel_rfl) (by exact fun _ _ _ h => h) (Or.inl ⟨by rfl, ?_⟩) hH ?_
  rotate_left
  · (intro wy hSw; (try dsimp only at hSw); go_simp; try (with_reducible rfl))
  try simp only [Act.put, List.setIfInBounds_toArray, List.set_cons_zero, List.set_cons_succ]
  refine Late.Goes.take (i := 14) (v := ?_) (by simp only [List.getElem?_toArray, List.getElem?_cons_succ, List.getElem?_cons_zero]; rfl) (by kernel_rfl) (by kernel_rfl) (by kernel_rfl) (by kernel_rfl) (by exact fun _ _ _ h => h) (Or.inl ⟨by rfl, ?_⟩) hH ?_
  rotate_left
  · (intro wy hSw; (try dsimp only at hSw); go_simp; try (with_reducible rfl))
  try simp only [Act.put, List.setIfInBounds_toArray, List.set_cons_zero, List.set_cons_succ]
  refine Late.Goes.take (i := 15) (v := ?_) (by simp only [List.getElem?_toArray, List.getElem?_cons_succ, List.getElem?_cons_zero]; rfl) (by kernel_rfl) (by kernel_rfl) (by kernel_rfl) (by kernel_rfl) (by exact fun _ _ _ h => h) (Or.inl ⟨by rfl, ?_⟩) hH ?_
  rotate_left
  · (intro wy hSw; (try dsimp only at hSw); go_simp; try (with_reducible rfl))
  try simp only [Act.put, List.setIfInBounds_toArray, List.set_cons_zero, List.set_cons_succ]
  clear q1 q2 q3 c1
  refine Late.Goes.one (i := 1) (by kernel_rfl) (by simp only [List.getElem?_toArray, List.getElem?_cons_succ, List.getElem?_cons_zero]; rfl) (fun K hK => ?_)
  clear hH
  go_simp
  refine hK.out _ _ ?_ (fun hH => ?_)
  · exact fun _ => (World.cell?_alloc_lt _ _ _ hltW).trans HC1.out
  clear hK K
  have hH := hH rfl
  try simp only [Act.put, List.setIfInBounds_toArray, List.set_cons_zero, List.set_cons_succ]
  refine Late.Goes.one (i := 8) (by kernel_rfl) (by simp only [List.getElem?_toArray, List.getElem?_cons_succ, List.getElem?_cons_zero]; rfl) (fun K hK => ?_)
  clear hH
  refine step_append_onto rfl (.tmp 14) (.tmp 20) _ rfl W.heap.size 46 i0 _ 3 48 Try.underlying27 hi0 hz0 hz1 hz2 rfl (by omega) (.slice (some ⟨W.drew.heap.size, 0, none⟩) 0 0) 0 [] rfl (World.ownsRow_made (base := W.heap.size) (e := 46) (size := 3) W.drew #[] 0 (Nat.le_refl _) (by simp) (by simp)) (.slice (some ⟨g, 0, none⟩) P (cap)) P (rcells (rs.take P)) rfl ((sees_front HROW2.out (by have := HPL.out; have := HE0.out; omega) (cap)).below ((Below.refl W.heap.size W).drew.alloc (Nat.le_refl _) _)) (fun u hu => HONE.out u (by rw [rcells_take] at hu; exact List.mem_of_mem_take hu)) (by simp only [maxLen]; omega) (by omega) (by simp) ?_
  intro v3 w3 ho3 hon3
  have hb3 : But (fun _ => False) W w3 := ((But.refl _ W).drew.alloc _).trans hon3.but (fun i hi e => by have e2 : i = W.drew.heap.size := Option.some.inj (show some i = some W.drew.heap.size from e); have e3 : W.drew.heap.size = W.heap.size := rfl; omega)
  rw [List.nil_append, Nat.zero_add] at ho3
  have HO3 := Lib.hid ho3
  have HB3 := Lib.hid hb3
  clear ho3 hb3 hon3
  refine hK.out _ _ ?_ (fun hH => ?_)
  · exact fun _ => (HBW.out.but HB3.out (fun e => e)).cell 1
  clear hK K
  have hH := hH rfl
  try simp only [Act.put, List.setIfInBounds_toArray, List.set_cons_zero, List.set_cons_succ]
  refine Late.Goes.one (i := 16) (by kernel_rfl) (by simp only [List.getElem?_toArray, List.getElem?_cons_succ, List.getElem?_cons_zero]; rfl) (fun K hK => ?_)
  clear hH
  refine step_append_onto rfl (.tmp 21) (.tmp 28) _ rfl W.heap.size 46 i0 _ 3 48 Try.underlying27 hi0 hz0 hz1 hz2 rfl (by omega) v3 P (rcells (rs.take P)) rfl HO3.out _ (n - (P + 1)) (rcells (rs.drop (P + 1))) rfl (HSEE.out _ HB3.out _ (by simp [Act.eval])) (fun u hu => HONE.out u (by rw [rcells_drop] at hu; exact List.mem_of_mem_drop hu)) (by simp only [maxLen]; have := HN.out; have := HE0.out; omega) (by have := HN.out; have := HE0.out; omega) HB3.out.size ?_
  intro v5 w5 ho5 hon5
  obtain ⟨a5, n5, q5, rfl⟩ := own_slice ho5
  have hb5 : But (fun _ => False) W w5 := HB3.out.trans hon5.but (fun i hi e => by have := (HO3.out.lt i e.symm).1; omega)
  have hk5 := HBW.out.but hb5 (fun e => e)
  have c5 := hk5.cell 1
  have f5 := hk5.frozen 1
  have HO5 := Lib.hid ho5
  have HB5 := Lib.hid hb5
  clear ho5 hb5 hon5 hk5
  refine hK.out _ _ ?_ (fun hH => ?_)
  · exact fun _ => c5
  clear hK K
  have hH := hH rfl
  try simp only [Act.put, List.setIfInBounds_toArray, List.set_cons_zero, List.set_cons_succ]
  refine Late.Goes.one (i := 17) (by kernel_rfl) (by simp only [List.getElem?_toArray, List.getElem?_cons_succ, List.getElem?_cons_zero]; rfl) (fun K hK => ?_)
  clear hH
  go_simp
  refine hK.out _ _ ?_ (fun hH => ?_)
  · exact fun _ => c5
  clear hK K
  have hH := hH rfl
  try simp only [Act.put, List.setIfInBounds_toArray, List.set_cons_zero, List.set_cons_succ]
  refine Late.Goes.one (i := 18) (by kernel_rfl) (by simp only [List.getElem?_toArray, List.getElem?_cons_succ, List.getElem?_cons_zero]; rfl) (fun K hK => ?_)
  clear hH
  go_simp
  refine hK.out _ _ ?_ (fun hH => ?_)
  · exact fun _ => c5
  clear hK K
  have hH := hH rfl
  try simp only [Act.put, List.setIfInBounds_toArray, List.set_cons_zero, List.set_cons_succ]
  refine Late.Goes.one (i := 19) (by kernel_rfl) (by simp only [List.getElem?_toArray, List.getElem?_cons_succ, List.getElem?_cons_zero]; rfl) (fun K hK => ?_)
  clear hH
  go_simp
  refine hK.out _ _ ?_ (fun _ => ?_)
  · exact fun e => by cases e
  clear hK K
  try simp only [Act.put, List.setIfInBounds_toArray, List.set_cons_zero, List.set_cons_succ]
  refine Late.Goes.done (by kernel_rfl) ?_ _
  go_wp2_with fail
  go_end0
  refine ⟨rfl, w5, _, rfl, (HW.out.trans' HB5.out).new, ?_⟩
  have e9 : rs.length - 1 = P + (n - (P + 1)) := by have := HE0.out; have := HPL.out; omega
  rw [e9]
  exact own_base HO5.out HW.out.size
set_option maxRecDepth 100000 in
set_option maxHeartbeats 4000000 in
theorem rdrop_b {g n cap : Nat} (h : RAt w rp S (.slice (some ⟨g, 0, none⟩) n cap) rs pl lf kp) (hn : rs.length ≤ 1000000) (s : ByteArray) {e : REnt} (hl : look s.data.toList rs = some e) (hc : cap = pos s.data.toList rs + 1) :
    Calls Try.prog 37 #[.pointer (some ⟨rp, 0, none⟩), .string s] w fun x w' => x = .returned (.tuple #[]) ∧ ∃ w1 v1, w' = w1.setCell ⟨rp, 1, none⟩ v1 ∧ Below w.heap.size w w1 ∧ w1.ownsRow w.heap.size 46 3 v1 (rs.length - 1) (rcells (rs.take (pos s.data.toList rs)) ++ rcells (rs.drop (pos s.data.toList rs + 1))) := by
  obtain ⟨i0, hi0, hz0, hz1, hz2⟩ := info_parts file_info
  have hf := rfind_at h hn s
  rw [hl] at hf
  have hP0 := at_pos h.riseR hl
  obtain ⟨P, hP⟩ : ∃ P, P = pos s.data.toList rs := ⟨_, rfl⟩
  rw [← hP] at hf hc hP0 ⊢
  have hf2 := Lib.hid hf
  have hPl : P < rs.length := get_lt hP0
  obtain ⟨e0, hlc, hcm⟩ : rs.length = n ∧ n ≤ cap ∧ cap ≤ maxLen := by
    obtain ⟨a, c, e1, e2, e3, _⟩ := h.shape
    injection e1 with e4 e5 e6
    subst e5 e6
    exact ⟨rfl, e2, e3⟩
  obtain rfl : P + 1 = n := by omega
  obtain rfl : P + 1 = cap := by omega
  have b0 : (P + 1) ≤ 9223372036854775807 := by simpa [maxLen] using hcm
  have b1 : (P : Int) + 1 ≤ ((P : Int) + 1) := by omega
  have b2 : ((P : Int) + 1) ≤ ((P : Int) + 1) := by omega
  have b3 : (P : Int) ≤ ((P : Int) + 1) := by omega
  have b4 : (P : Int) ≤ 1000000 := by omega
  have b5 : (P : Int) ≤ ((P : Int) + 1) := by omega
  have hPM : P ≤ 1000000 := by omega
  have HROW := Lib.hid (show w.ownsRow 0 46 3 (.slice (some ⟨g, 0, none⟩) (P + 1) (P + 1)) (P + 1) (rcells rs) by have hr := h.row; rw [e0] at hr; exact hr)
  have HONE := Lib.hid (rcells_one h.ents)
  have HBLK := Lib.hid h.blk
  have HN := Lib.hid hn
  have HPL := Lib.hid hPl
  have HE0 := Lib.hid e0
  have HLC := Lib.hid hlc
  have hlt := h.blk.lt
  clear hcm hn hPl h hP hf hl hP0 e0 hlc hc
  go_enter Try.func37, Try.ntmps37
  go_wp2_with fail
  refine hf2.out.mono ?_
  rintro x w' ⟨rfl, nd, rfl⟩
  have hbW : But (fun _ => False) w (w.drewN nd) := (But.refl _ w).drewN nd
  generalize w.drewN nd = W at hbW ⊢
  clear hf2
  go_wp2_with fail
  have c1 : W.cell? ⟨rp, 1, none⟩ = some (.slice (some ⟨g, 0, none⟩) (P + 1) (P + 1)) := (HBLK.out.but hbW (fun e => e)).cell 1
  have HROW2 := Lib.hid (ownsRow_but HROW.out hbW (fun _ _ e => e))
  have HBW := Lib.hid (HBLK.out.but hbW (fun e => e))
  have HW := Lib.hid hbW
  have hltW : rp < W.heap.size := Nat.lt_of_lt_of_le hlt hbW.size
  have HC1 := Lib.hid c1
  have q1 : IntKind.i64.wrap ((P : Int) + 1) = (P : Int) + 1 := IntWalk.i64_in _ (by omega)
  have q2 : 0 ≤ (P : Int) + 1 := by omega
  have q3 : ((P : Int) + 1).toNat = P + 1 := by omega
  have hd0 : rs.drop (P + 1) = [] := List.drop_eq_nil_of_le (by have := HE0.out; omega)
  have HSEE := Lib.hid (show ∀ W', But (fun _ => False) W W' → ∀ y, y = Value.slice (some ⟨g, 0, none⟩) 0 0 → Sees W' 3 y 0 (rcells (rs.drop (P + 1))) from fun W' hb y e => by rw [e, hd0]; exact .inr ⟨_, _, rfl, rfl, fun j u hu => by simp [rcells] at hu⟩)
  clear hd0
  clear hbW
  refine Late.region_goes (fun w' => w'.cell? ⟨rp, 1, none⟩ = some (.slice (some ⟨g, 0, none⟩) (P + 1) (P + 1))) (fun i => i == 19) (by kernel_rfl) ?_ (fun hH => ?_)
  · exact c1
  refine Late.Goes.take (i := 0) (v := ?_) (by simp only [List.getElem?_toArray, List.getElem?_cons_succ, List.getElem?_cons_zero]; rfl) (by kernel_rfl) (by kernel_rfl) (by kernel_rfl) (by kernel_rfl) (by exact fun _ _ _ h => h) (Or.inl ⟨by rfl, ?_⟩) hH ?_
  rotate_left
  · (intro wy hSw; (try dsimp only at hSw); go_simp; try (with_reducible rfl))
  try simp only [Act.put, List.setIfInBounds_toArray, List.set_cons_zero, List.set_cons_succ]
  refine Late.Goes.take (i := 2) (v := ?_) (by simp only [List.getElem?_toArray, List.getElem?_cons_succ, List.getElem?_cons_zero]; rfl) (by kernel_rfl) (by kernel_rfl) (by kernel_rfl) (by kernel_rfl) (by exact fun _ _ _ h => h) (Or.inl ⟨by rfl, ?_⟩) hH ?_
  rotate_left
  · (intro wy hSw; (try dsimp only at hSw); go_simp; try (with_reducible rfl))
  try simp only [Act.put, List.setIfInBounds_toArray, List.set_cons_zero, List.set_cons_succ]
  refine Late.Goes.take (i := 3) (v := ?_) (by simp only [List.getElem?_toArray, List.getElem?_cons_succ, List.getElem?_cons_zero]; rfl) (by kernel_rfl) (by kernel_rfl) (by kernel_rfl) (by kernel_rfl) (by exact fun _ _ _ h => h) (Or.inl ⟨by rfl, ?_⟩) hH ?_
  rotate_left
  · (intro wy hSw; (try dsimp only at hSw); go_simp; try (with_reducible rfl))
  try simp only [Act.put, List.setIfInBounds_toArray, List.set_cons_zero, List.set_cons_succ]
  refine Late.Goes.take (i := 4) (v := ?_) (by simp only [List.getElem?_toArray, List.getElem?_cons_succ, List.getElem?_cons_zero]; rfl) (by kernel_rfl) (by kernel_rfl) (by kernel_rfl) (by kernel_rfl) (by exact fun _ _ _ h => h) (Or.inl ⟨by rfl, ?_⟩) hH ?_
  rotate_left
  · (intro wy hSw; (try dsimp only at hSw); go_simp; try (with_reducible rfl))
  try simp only [Act.put, List.setIfInBounds_toArray, List.set_cons_zero, List.set_cons_succ]
  refine Late.Goes.take (i := 5) (v := ?_) (by simp only [List.getElem?_toArray, List.getElem?_cons_succ, List.getElem?_cons_zero]; rfl) (by kernel_rfl) (by kernel_rfl) (by kernel_rfl) (by kernel_rfl) (by exact fun _ _ _ h => h) (Or.inl ⟨by rfl, ?_⟩) hH ?_
  rotate_left
  · (intro wy hSw; (try dsimp only at hSw); go_simp; try (with_reducible rfl))
  try simp only [Act.put, List.setIfInBounds_toArray, List.set_cons_zero, List.set_cons_succ]
  refine Late.Goes.take (i := 6) (v := ?_) (by simp only [List.getElem?_toArray, List.getElem?_cons_succ, List.getElem?_cons_zero]; rfl) (by kernel_rfl) (by kernel_rfl) (by kernel_rfl) (by kernel_rfl) (by exact fun _ _ _ h => h) (Or.inl ⟨by rfl, ?_⟩) hH ?_
  rotate_left
  · (intro wy hSw; (try dsimp only at hSw); go_simp; try (with_reducible rfl))
  try simp only [Act.put, List.setIfInBounds_toArray, List.set_cons_zero, List.set_cons_succ]
  refine Late.Goes.take (i := 7) (v := ?_) (by simp only [List.getElem?_toArray, List.getElem?_cons_succ, List.getElem?_cons_zero]; rfl) (by kernel_rfl) (by kernel_rfl) (by kernel_rfl) (by kernel_rfl) (by exact fun _ _ _ h => h) (Or.inl ⟨by rfl, ?_⟩) hH ?_
  rotate_left
  · (intro wy hSw; (try dsimp only at hSw); go_simp; try (with_reducible rfl))
  try simp only [Act.put, List.setIfInBounds_toArray, List.set_cons_zero, List.set_cons_succ]
  refine Late.Goes.take (i := 9) (v := ?_) (by simp only [List.getElem?_toArray, List.getElem?_cons_succ, List.getElem?_cons_zero]; rfl) (by kernel_rfl) (by kernel_rfl) (by kernel_rfl) (by kernel_rfl) (by exact fun _ _ _ h => h) (Or.inl ⟨by rfl, ?_⟩) hH ?_
  rotate_left
  · (intro wy hSw; (try dsimp only at hSw); go_simp; try (with_reducible rfl))
  try simp only [Act.put, List.setIfInBounds_toArray, List.set_cons_zero, List.set_cons_succ]
  refine Late.Goes.take (i := 10) (v := ?_) (by simp only [List.getElem?_toArray, List.getElem?_cons_succ, List.getElem?_cons_zero]; rfl) (by kernel_rfl) (by kernel_rfl) (by kernel_rfl) (by kernel_rfl) (by exact fun _ _ _ h => h) (Or.inl ⟨by rfl, ?_⟩) hH ?_
  rotate_left
  · (intro wy hSw; (try dsimp only at hSw); go_simp; try (with_reducible rfl))
  try simp only [Act.put, List.setIfInBounds_toArray, List.set_cons_zero, List.set_cons_succ]
  refine Late.Goes.take (i := 11) (v := ?_) (by simp only [List.getElem?_toArray, List.getElem?_cons_succ, List.getElem?_cons_zero]; rfl) (by kernel_rfl) (by kernel_rfl) (by kernel_rfl) (by kernel_rfl) (by exact fun _ _ _ h => h) (Or.inl ⟨by rfl, ?_⟩) hH ?_
  rotate_left
  · (intro wy hSw; (try dsimp only at hSw); go_simp; try (with_reducible rfl))
  try simp only [Act.put, List.setIfInBounds_toArray, List.set_cons_zero, List.set_cons_succ]
  refine Late.Goes.take (i := 12) (v := ?_) (by simp only [List.getElem?_toArray, List.getElem?_cons_succ, List.getElem?_cons_zero]; rfl) (by kernel_rfl) (by kernel_rfl) (by kernel_rfl) (by kernel_rfl) (by exact fun _ _ _ h => h) (Or.inl ⟨by rfl, ?_⟩) hH ?_
  rotate_left
  · (intro wy hSw; (try dsimp only at hSw); go_simp; try (with_reducible rfl))
  try simp only [Act.put, List.setIfInBounds_toArray, List.set_cons_zero, List.set_cons_succ]
  refine Late.Goes.take (i := 13) (v := ?_) (by simp only [List.getElem?_toArray, List.getElem?_cons_succ, List.getElem?_cons_zero]; rfl) (by kernel_rfl) (by kernel_rfl) (by kernel_rfl) (by kernel_rfl) (by exact fun _ _ _ h => h) (Or.inl ⟨by rfl, ?_⟩) hH ?_
  rotate_left
  · (intro wy hSw; (try dsimp only at hSw); go_simp; try (with_reducible rfl))
  try simp only [Act.put, List.setIfInBounds_toArray, List.set_cons_zero, List.set_cons_succ]
  refine Late.Goes.take (i := 14) (v := ?_) (by simp only [List.getElem?_toArray, List.getElem?_cons_succ, List.getElem?_cons_zero]; rfl) (by kernel_rfl) (by kernel_rfl) (by kernel_rfl) (by kernel_rfl) (by exact fun _ _ _ h => h) (Or.inl ⟨by rfl, ?_⟩) hH ?_
  rotate_left
  · (intro wy hSw; (try dsimp only at hSw); go_simp; try (with_reducible rfl))
  try simp only [Act.put, List.setIfInBounds_toArray, List.set_cons_zero, List.set_cons_succ]
  refine Late.Goes.take (i := 15) (v := ?_) (by simp only [List.getElem?_toArray, List.getElem?_cons_succ, List.getElem?_cons_zero]; rfl) (by kernel_rfl) (by kernel_rfl) (by kernel_rfl) (by kernel_rfl) (by exact fun _ _ _ h => h) (Or.inl ⟨by rfl, ?_⟩) hH ?_
  rotate_left
  · (intro wy hSw; (try dsimp only at hSw); go_simp; try (with_reducible rfl))
  try simp only [Act.put, List.setIfInBounds_toArray, List.set_cons_zero, List.set_cons_succ]
  clear q1 q2 q3 c1
  refine Late.Goes.one (i := 1) (by kernel_rfl) (by simp only [List.getElem?_toArray, List.getElem?_cons_succ, List.getElem?_cons_zero]; rfl) (fun K hK => ?_)
  clear hH
  go_simp
  refine hK.out _ _ ?_ (fun hH => ?_)
  · exact fun _ => (World.cell?_alloc_lt _ _ _ hltW).trans HC1.out
  clear hK K
  have hH := hH rfl
  try simp only [Act.put, List.setIfInBounds_toArray, List.set_cons_zero, List.set_cons_succ]
  refine Late.Goes.one (i := 8) (by kernel_rfl) (by simp only [List.getElem?_toArray, List.getElem?_cons_succ, List.getElem?_cons_zero]; rfl) (fun K hK => ?_)
  clear hH
  refine step_append_onto rfl (.tmp 14) (.tmp 20) _ rfl W.heap.size 46 i0 _ 3 48 Try.underlying27 hi0 hz0 hz1 hz2 rfl (by omega) (.slice (some ⟨W.drew.heap.size, 0, none⟩) 0 0) 0 [] rfl (World.ownsRow_made (base := W.heap.size) (e := 46) (size := 3) W.drew #[] 0 (Nat.le_refl _) (by simp) (by simp)) (.slice (some ⟨g, 0, none⟩) P (P + 1)) P (rcells (rs.take P)) rfl ((sees_front HROW2.out (by have := HPL.out; have := HE0.out; omega) (P + 1)).below ((Below.refl W.heap.size W).drew.alloc (Nat.le_refl _) _)) (fun u hu => HONE.out u (by rw [rcells_take] at hu; exact List.mem_of_mem_take hu)) (by simp only [maxLen]; omega) (by omega) (by simp) ?_
  intro v3 w3 ho3 hon3
  have hb3 : But (fun _ => False) W w3 := ((But.refl _ W).drew.alloc _).trans hon3.but (fun i hi e => by have e2 : i = W.drew.heap.size := Option.some.inj (show some i = some W.drew.heap.size from e); have e3 : W.drew.heap.size = W.heap.size := rfl; omega)
  rw [List.nil_append, Nat.zero_add] at ho3
  have HO3 := Lib.hid ho3
  have HB3 := Lib.hid hb3
  clear ho3 hb3 hon3
  refine hK.out _ _ ?_ (fun hH => ?_)
  · exact fun _ => (HBW.out.but HB3.out (fun e => e)).cell 1
  clear hK K
  have hH := hH rfl
  try simp only [Act.put, List.setIfInBounds_toArray, List.set_cons_zero, List.set_cons_succ]
  refine Late.Goes.one (i := 16) (by kernel_rfl) (by simp only [List.getElem?_toArray, List.getElem?_cons_succ, List.getElem?_cons_zero]; rfl) (fun K hK => ?_)
  clear hH
  refine step_append_onto rfl (.tmp 21) (.tmp 28) _ rfl W.heap.size 46 i0 _ 3 48 Try.underlying27 hi0 hz0 hz1 hz2 rfl (by omega) v3 P (rcells (rs.take P)) rfl HO3.out _ 0 (rcells (rs.drop (P + 1))) rfl (HSEE.out _ HB3.out _ (by simp [Act.eval])) (fun u hu => HONE.out u (by rw [rcells_drop] at hu; exact List.mem_of_mem_drop hu)) (by simp only [maxLen]; have := HN.out; have := HE0.out; omega) (by have := HN.out; have := HE0.out; omega) HB3.out.size ?_
  intro v5 w5 ho5 hon5
  obtain ⟨a5, n5, q5, rfl⟩ := own_slice ho5
  have hb5 : But (fun _ => False) W w5 := HB3.out.trans hon5.but (fun i hi e => by have := (HO3.out.lt i e.symm).1; omega)
  have hk5 := HBW.out.but hb5 (fun e => e)
  have c5 := hk5.cell 1
  have f5 := hk5.frozen 1
  have HO5 := Lib.hid ho5
  have HB5 := Lib.hid hb5
  clear ho5 hb5 hon5 hk5
  refine hK.out _ _ ?_ (fun hH => ?_)
  · exact fun _ => c5
  clear hK K
  have hH := hH rfl
  try simp only [Act.put, List.setIfInBounds_toArray, List.set_cons_zero, List.set_cons_succ]
  refine Late.Goes.one (i := 17) (by kernel_rfl) (by simp only [List.getElem?_toArray, List.getElem?_cons_succ, List.getElem?_cons_zero]; rfl) (fun K hK => ?_)
  clear hH
  go_simp
  refine hK.out _ _ ?_ (fun hH => ?_)
  · exact fun _ => c5
  clear hK K
  have hH := hH rfl
  try simp only [Act.put, List.setIfInBounds_toArray, List.set_cons_zero, List.set_cons_succ]
  refine Late.Goes.one (i := 18) (by kernel_rfl) (by simp only [List.getElem?_toArray, List.getElem?_cons_succ, List.getElem?_cons_zero]; rfl) (fun K hK => ?_)
  clear hH
  go_simp
  refine hK.out _ _ ?_ (fun hH => ?_)
  · exact fun _ => c5
  clear hK K
  have hH := hH rfl
  try simp only [Act.put, List.setIfInBounds_toArray, List.set_cons_zero, List.set_cons_succ]
  refine Late.Goes.one (i := 19) (by kernel_rfl) (by simp only [List.getElem?_toArray, List.getElem?_cons_succ, List.getElem?_cons_zero]; rfl) (fun K hK => ?_)
  clear hH
  go_simp
  refine hK.out _ _ ?_ (fun _ => ?_)
  · exact fun e => by cases e
  clear hK K
  try simp only [Act.put, List.setIfInBounds_toArray, List.set_cons_zero, List.set_cons_succ]
  refine Late.Goes.done (by kernel_rfl) ?_ _
  go_wp2_with fail
  go_end0
  refine ⟨rfl, w5, _, rfl, (HW.out.trans' HB5.out).new, ?_⟩
  have e9 : rs.length - 1 = P + 0 := by have := HE0.out; have := HPL.out; omega
  rw [e9]
  exact own_base HO5.out HW.out.size
theorem rdrop_cells (h : RAt w rp S lv rs pl lf kp) (hn : rs.length ≤ 1000000) (s : ByteArray) {e : REnt} (hl : look s.data.toList rs = some e) :
    Calls Try.prog 37 #[.pointer (some ⟨rp, 0, none⟩), .string s] w fun x w' => x = .returned (.tuple #[]) ∧ ∃ w1 v1, w' = w1.setCell ⟨rp, 1, none⟩ v1 ∧ Below w.heap.size w w1 ∧ w1.ownsRow w.heap.size 46 3 v1 (rs.length - 1) (rcells (rs.take (pos s.data.toList rs)) ++ rcells (rs.drop (pos s.data.toList rs + 1))) := by
  rcases h.row.2 with ⟨h1, h2⟩ | ⟨g, cap, cur, h1, _⟩
  · have e0 : rs = [] := List.eq_nil_of_length_eq_zero h2
    rw [e0] at hl
    cases hl
  · subst h1
    by_cases hc : cap = pos s.data.toList rs + 1
    · exact rdrop_b h hn s hl hc
    · exact rdrop_a h hn s hl hc
end
end Go.Proofs.Ytiaaadeenbjciaa.Disk
