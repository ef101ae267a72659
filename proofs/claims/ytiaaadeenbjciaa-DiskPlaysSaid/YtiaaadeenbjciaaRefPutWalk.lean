/- The walk of the document's put, where the row of files is longer than the place: what lies in its row behind it. -/
import Derived.Test.YtiaaadeenbjciaaRefPut
import Derived.Sort.Walk0
namespace Go.Proofs.Ytiaaadeenbjciaa.Disk
open Go.Proofs.Ytiaaadeenbjciaa.Mem
open Go.ChangeShapes Go.WideShapes Go.ChangeAt Go.RowKit
open Go.Proofs (encStr)
set_option linter.unusedVariables false
section
variable {w w' : World} {rp : Nat} {S : St} {lv : Value} {rs : List (Nm × REnt)} {pl : Bool} {lf kp : Int}
theorem sees_made (w : World) (t : TypeId) (cs : Array Value) (m : Nat) (h : cs.size = m * 3) : Sees (w.alloc (.cells cs t)) 3 (.slice (some ⟨w.heap.size, 0, none⟩) m m) m cs.toList :=
  .inr ⟨_, _, rfl, by rw [Array.length_toList]; exact h, fun j u hu => ⟨(Blk.new w t cs).lt, by rw [add_none, Nat.zero_add, (Blk.new w t cs).cell]; rw [Array.getElem?_toList] at hu; exact hu⟩⟩
theorem own_slice {base size n : Nat} {t : TypeId} {v : Value} {xs : List Value} (h : w.ownsRow base t size v n xs) : ∃ a k c, v = .slice a k c := by
  rcases h.2 with ⟨h1, _⟩ | ⟨g, cap, cur, h1, _⟩
  · exact ⟨_, _, _, h1⟩
  · exact ⟨_, _, _, h1⟩
theorem own_base {base base' size n : Nat} {t : TypeId} {v : Value} {xs : List Value} (h : w.ownsRow base t size v n xs) (hb : base' ≤ base) : w.ownsRow base' t size v n xs := by
  rcases h with ⟨h0, h1 | ⟨g, cap, cur, h1, h2, h3⟩⟩
  · exact ⟨h0, .inl h1⟩
  · exact ⟨h0, .inr ⟨g, cap, cur, h1, Nat.le_trans hb h2, h3⟩⟩
set_option maxRecDepth 20000 in
set_option maxHeartbeats 2000000 in
theorem rput_a {g n cap : Nat} (h : RAt w rp S (.slice (some ⟨g, 0, none⟩) n cap) rs pl lf kp) (hn : rs.length ≤ 1000000) (s : ByteArray) (v : Value) (m : Nat) (hv : v.oneCell' = true) (hc : cap ≠ pos s.data.toList rs) :
    Calls Try.prog 36 #[.pointer (some ⟨rp, 0, none⟩), .agg #[.string s, v, .int .i64 m]] w fun x w' => x = .returned (.tuple #[]) ∧ ∃ w1 v1, w' = w1.setCell ⟨rp, 1, none⟩ v1 ∧ Below w.heap.size w w1 ∧ w1.ownsRow w.heap.size 46 3 v1 (rs.length + 1) (rcells (rs.take (pos s.data.toList rs)) ++ [.string s, v, .int .i64 m] ++ rcells (rs.drop (pos s.data.toList rs))) := by
  obtain ⟨i0, hi0, hz0, hz1, hz2⟩ := info_parts file_info
  have hlt := h.blk.lt
  have hf := Lib.hid (fun w1 (hb : Below w.heap.size w w1) => rfind_at (h.but (But.of_new hb) (T := fun _ => False) (fun _ _ e => e)) hn s)
  obtain ⟨P, hP⟩ : ∃ P, P = pos s.data.toList rs := ⟨_, rfl⟩
  rw [← hP] at hf hc ⊢
  obtain ⟨e0, hlc, hcm⟩ : rs.length = n ∧ n ≤ cap ∧ cap ≤ maxLen := by
    obtain ⟨a, c, e1, e2, e3, _⟩ := h.shape
    injection e1 with e4 e5 e6
    subst e5 e6
    exact ⟨rfl, e2, e3⟩
  have hPn : P ≤ n := by rw [hP, ← e0]; exact pos_le _ _
  have b1 : (P : Int) ≤ (cap : Int) := by omega
  have b2 : cap ≤ 9223372036854775807 := by simpa [maxLen] using hcm
  have b3 : (P : Int) ≤ (n : Int) := by omega
  have b4 : (n : Int) ≤ (cap : Int) := by omega
  have hPM : P ≤ 1000000 := by omega
  have HROW := Lib.hid (show w.ownsRow 0 46 3 (.slice (some ⟨g, 0, none⟩) n cap) n (rcells rs) by rw [← e0]; exact e0 ▸ h.row)
  have HONE := Lib.hid (rcells_one h.ents)
  have HBLK := Lib.hid h.blk
  have HN := Lib.hid hn
  have HLC := Lib.hid hlc
  have HPN := Lib.hid hPn
  clear hcm hlc hn hPn h hP
  go_enter Try.func36, Try.ntmps36
  go_wp2_with fail
  have hb1 : But (fun _ => False) w (w.alloc (Obj.cells #[.string s, v, .int .i64 m] 46)) := (But.refl _ w).alloc _
  refine (hf.out _ hb1.new).mono ?_
  rintro x w' ⟨rfl, nd, rfl⟩
  have hbW : But (fun _ => False) w ((w.alloc (Obj.cells #[.string s, v, .int .i64 m] 46)).drewN nd) := hb1.drewN nd
  have hkW : Blk ((w.alloc (Obj.cells #[.string s, v, .int .i64 m] 46)).drewN nd) w.heap.size 46 #[.string s, v, .int .i64 m] := (Blk.new w _ _).but (T := fun _ => False) ((But.refl _ _).drewN nd) (fun e => e)
  generalize (w.alloc (Obj.cells #[.string s, v, .int .i64 m] 46)).drewN nd = W at hbW hkW ⊢
  obtain ⟨B0, hB0⟩ : ∃ B0, B0 = w.heap.size := ⟨_, rfl⟩
  rw [← hB0] at hkW ⊢
  have hBW := hkW.lt
  have c1 : W.cell? ⟨rp, 1, none⟩ = some (.slice (some ⟨g, 0, none⟩) n cap) := (HBLK.out.but hbW (fun e => e)).cell 1
  have HROW2 := Lib.hid (ownsRow_but HROW.out hbW (fun _ _ e => e))
  have HW := Lib.hid hbW
  have HK := Lib.hid hkW
  have hltW : rp < W.heap.size := Nat.lt_of_lt_of_le hlt hbW.size
  clear hbW hb1 hf hkW hB0
  have HBW := Lib.hid (HBLK.out.but HW.out (fun e => e))
  have HV := Lib.hid (show ∀ u ∈ [Value.string s, v, .int .i64 m], u.oneCell' = true by
    intro u hu
    rcases List.mem_cons.1 hu with rfl | hu
    · rfl
    · rcases List.mem_cons.1 hu with rfl | hu
      · exact hv
      · rcases List.mem_cons.1 hu with rfl | hu
        · rfl
        · cases hu)
  have HV3 := Lib.hid (fun u (hu : u ∈ rcells (rs.drop P)) => HONE.out u (by rw [rcells_drop] at hu; exact List.mem_of_mem_drop hu))
  have see3 : ∀ W', But (fun _ => False) W W' → ∀ y, y = Value.slice (some ⟨g, P * 3, none⟩) (n - P) (cap - P) → Sees W' 3 y (n - P) (rcells (rs.drop P)) := fun W' hb y e => e ▸ sees_back (ownsRow_but HROW2.out hb (fun _ _ e => e)) HPN.out (fun _ => rfl) _
  go_wp2_with (first | (at_builtin; (refine wpList_append_onto rfl (.tmp 14) (.tmp 20) _ rfl W.heap.size 46 i0 _ 3 48 Try.underlying27 hi0 hz0 hz1 hz2 rfl (by omega) (.slice (some ⟨W.heap.size, 0, none⟩) 0 0) 0 [] rfl (World.ownsRow_made W #[] 0 (Nat.le_refl _) (by simp) (by simp)) (.slice (some ⟨g, 0, none⟩) P cap) P (rcells (rs.take P)) rfl ((sees_front HROW2.out HPN.out cap).below ((Below.refl _ _).alloc (Nat.le_refl _) _)) (fun u hu => HONE.out u (by rw [rcells_take] at hu; exact List.mem_of_mem_take hu)) (by simp only [maxLen]; omega) (by omega) (by simp) ?_; intro v3 w3 ho3 hon3; have hb3 : But (fun _ => False) W w3 := ((But.refl _ W).alloc _).trans hon3.but (fun i hi e => by have e2 : i = W.heap.size := Option.some.inj (show some i = some W.heap.size from e); omega); rw [List.nil_append, Nat.zero_add] at ho3; have hkB := HK.out.but hb3 (fun e => e); have k0 : w3.cell? ⟨B0, 0, none⟩ = some (.string s) := hkB.cell 0; have k1 : w3.cell? ⟨B0, 1, none⟩ = some v := hkB.cell 1; have k2 : w3.cell? ⟨B0, 2, none⟩ = some (.int .i64 m) := hkB.cell 2; have HO3 := Lib.hid ho3; have HB3 := Lib.hid hb3; clear hkB ho3 hb3 hon3 c1)) | (at_builtin; refine wpList_append_onto rfl (.tmp 22) (.tmp 24) _ rfl W.heap.size 46 i0 _ 3 48 Try.underlying27 hi0 hz0 hz1 hz2 rfl (by omega) v3 P (rcells (rs.take P)) rfl (ownsRow_alloc HO3.out _) (.slice (some ⟨w3.heap.size, 0, none⟩) 1 1) 1 [.string s, v, .int .i64 m] rfl (sees_made w3 _ #[.string s, v, .int .i64 m] 1 rfl) HV.out (by simp only [maxLen]; omega) (by omega) (HB3.out.alloc _).size ?_; intro v4 w4 ho4 hon4; have hb4 : But (fun _ => False) W w4 := (HB3.out.alloc _).trans hon4.but (fun i hi e => by have := (HO3.out.lt i e.symm).1; omega); have hs3 := see3 w4 hb4; have c4 : w4.cell? ⟨rp, 1, none⟩ = some (.slice (some ⟨g, 0, none⟩) n cap) := (HBW.out.but hb4 (fun e => e)).cell 1; have HO4 := Lib.hid ho4; have HB4 := Lib.hid hb4; clear ho4 hb4 hon4 k0 k1 k2) | (at_builtin; refine wpList_append_onto rfl (.tmp 27) (.tmp 33) _ rfl W.heap.size 46 i0 _ 3 48 Try.underlying27 hi0 hz0 hz1 hz2 rfl (by omega) v4 (P + 1) (rcells (rs.take P) ++ [.string s, v, .int .i64 m]) rfl HO4.out _ (n - P) (rcells (rs.drop P)) rfl (hs3 _ (by simp [Act.eval])) HV3.out (by simp only [maxLen]; have := HN.out; omega) (by have := HN.out; omega) HB4.out.size ?_; intro v5 w5 ho5 hon5; obtain ⟨a5, n5, q5, rfl⟩ := own_slice ho5; have hb5 : But (fun _ => False) W w5 := HB4.out.trans hon5.but (fun i hi e => by have := (HO4.out.lt i e.symm).1; omega); have hk5 := HBW.out.but hb5 (fun e => e); have c5 : w5.cell? ⟨rp, 1, none⟩ = some (.slice (some ⟨g, 0, none⟩) n cap) := hk5.cell 1; have f5 := hk5.frozen 1; have HO5 := Lib.hid ho5; have HB5 := Lib.hid hb5; clear ho5 hb5 hon5 hk5 hs3 c4))
  go_end0
  refine ⟨rfl, w5, _, rfl, (HW.out.trans' HB5.out).new, ?_⟩
  have e9 : rs.length + 1 = P + 1 + (n - P) := by have := HPN.out; omega
  rw [e9]
  exact own_base HO5.out HW.out.size
end
end Go.Proofs.Ytiaaadeenbjciaa.Disk
