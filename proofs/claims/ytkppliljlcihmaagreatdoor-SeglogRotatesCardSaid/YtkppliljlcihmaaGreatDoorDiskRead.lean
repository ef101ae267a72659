/- Contract of disk's Read. -/
import Derived.Test.YtkppliljlcihmaaGreatDoorDiskAppend
namespace Go.Proofs.YtkppliljlcihmaaGreatDoor.Disk
open Go.Proofs.YtkppliljlcihmaaGreatDoor.Mem
open Go.ChangeShapes Go.WideShapes Go.ChangeAt Go.RowKit
set_option linter.unusedVariables false
/- What Read tells: the error's number, and the bytes. -/
def readOf (S : St) (n : Nm) (at_ k : Int) : Int × List Int :=
  if S.down then (15, []) else match look n S.files with
    | none => (5, [])
    | some f => if at_ < 0 ∨ k < 0 ∨ (f.bytes.length : Int) - at_ < k then (1, []) else (0, (f.bytes.drop at_.toNat).take k.toNat)
section
variable {w w' : World} {p mb : Nat} {S : St} {cr : Option Addr} {es : List (Nm × Ent)} {D : DataW Nat} {F : Nat → Prop}
theorem sees_piece {a : Option Addr} {g len cap off k : Nat} {bytes : List Int} (h : Row w (some ⟨g, 0, none⟩) len bytes) (hk : off + k ≤ len) (hn : 0 < k → a = some ⟨g, off, none⟩) (ha : a ≠ none) : Sees w 1 (.slice a k cap) k (cellsOf ((bytes.drop off).take k)) := by
  have hl : ((bytes.drop off).take k).length = k := by
    rw [List.length_take, List.length_drop, h.1]; omega
  have hrow : Row w a k ((bytes.drop off).take k) := by
    refine ⟨hl, bytes_take (bytes_drop h.2.1 off) k, fun h0 => ?_⟩
    obtain ⟨b, o, hq, hlt, hc⟩ := h.2.2 (by omega)
    injection hq with hq
    injection hq with hq1 hq2
    subst hq1 hq2
    refine ⟨g, off, hn h0, hlt, fun i hi => ?_⟩
    have := hc (off + i) (by omega)
    rw [Nat.zero_add] at this
    rw [this]
    simp [List.getD, List.getElem?_drop, hi]
  exact hrow.sees (fun h => absurd h ha)
set_option maxRecDepth 20000 in
set_option maxRecDepth 100000 in
set_option maxHeartbeats 2000000 in
theorem read_yes (hA : At w p S mb cr es D) (hd : S.down = false) (s : ByteArray) (hs : s.size ≤ maxLen) {e : Ent} (hl : look s.data.toList es = some e) (off k : Nat) (hk : off + k ≤ e.bytes.length) (hu : e.bytes.length ≤ 1000000000) :
    Calls Tryz.prog 49 #[.pointer (some ⟨p, 0, none⟩), .string s, .int .i64 (off : Int), .int .i64 (k : Int)] w fun x w' => ∃ a c, x = .returned (.tuple #[.slice a k c, errV 0]) ∧ Row w' a k ((e.bytes.drop off).take k) ∧ Below w.heap.size w w' ∧ k ≤ c ∧ c ≤ maxLen ∧ (a = none → c = 0) := by
  obtain ⟨i0, hi0, hz0, hz1, hz2⟩ := info_parts u8_info
  have hf := Lib.hid (find_some hA hd s hs hl)
  have hE := hA.ents _ (look_mem hl)
  have hE0 := hA.ent (look_mem hl)
  obtain ⟨fb, v, bytes, synced⟩ := e
  obtain ⟨a, cap, hv, hrow, _, hsh⟩ := own_shape hE.2 hE0.2
  simp only at hv hk hu hsh hrow
  subst hv
  have k0 : w.cell? ⟨fb, 0, none⟩ = some (.slice a bytes.length cap) := hE.1.cell 0
  have hby : Bytes ((bytes.drop off).take k) := bytes_take (bytes_drop hE0.2 off) k
  have t1 : decide ((off : Int) < 0) = false := by simp
  have t2 : decide ((k : Int) < 0) = false := by simp
  have t3 : decide ((bytes.length : Int) - (off : Int) < (k : Int)) = false := by simp; omega
  have HBY := Lib.hid hby
  have hown := World.ownsRow_nil w w.heap.size 5 1
  have hfin : ∀ v' w', w'.ownsRow w.heap.size 5 1 v' (0 + k) ([] ++ cellsOf ((bytes.drop off).take k)) → Onto w w' (.slice none 0 0) v' → ∃ a c, v' = .slice a k c ∧ Row w' a k ((bytes.drop off).take k) ∧ Below w.heap.size w w' ∧ k ≤ c ∧ c ≤ maxLen ∧ (a = none → c = 0) := by
    intro v' w' ho hon
    rw [List.nil_append, Nat.zero_add] at ho
    obtain ⟨a, c, hv, hr, hl, hD⟩ := own_shape ho HBY.out
    refine ⟨a, c, hv, hr, (Below.refl _ w).grown hon.grown (Nat.le_refl _) (fun j hj => by cases hj), ?_, ?_, fun hn => ?_⟩
    · rcases hD with ⟨_, _, h⟩ | ⟨g, h1, h2, h3, h4, h5⟩ <;> omega
    · rcases hD with ⟨_, h, _⟩ | ⟨g, h1, h2, h3, h4, h5⟩
      · rw [h]; exact Nat.zero_le _
      · exact h5
    · rcases hD with ⟨_, h, _⟩ | ⟨g, h1, h2, h3, h4, h5⟩
      · exact h
      · rw [hn] at h1; cases h1
  have HF := Lib.hid hfin
  rcases hsh with ⟨rfl, rfl, hn0⟩ | ⟨g, rfl, _, hglt, hlc, hcm⟩
  · have hb0 : bytes = [] := List.eq_nil_of_length_eq_zero hn0
    subst hb0
    have ho0 : off = 0 := by simp at hk; omega
    have hk0 : k = 0 := by simp at hk; omega
    subst ho0 hk0
    clear hA hl hd hE hE0 hrow hu hk t1 t2 t3 hby hfin hn0
    go_enter Tryz.func49, Tryz.ntmps49
    go_wp2_with fail
    refine hf.out.mono ?_
    rintro x w' ⟨rfl, rfl⟩
    go_wp2_with (at_builtin; refine wpList_append_onto rfl _ _ 58 rfl w.heap.size 5 i0 _ 1 1 Tryz.underlying58 hi0 hz0 hz1 hz2 rfl (by omega) (.slice none 0 0) 0 [] rfl hown (.slice none 0 0) 0 [] rfl (.inl ⟨rfl, rfl, rfl⟩) (by intro u hu; cases hu) (by unfold maxLen; omega) (by omega) (Nat.le_refl _) ?_; intro v' w3 hown3 honto; obtain ⟨a3, c3, rfl, hr3, hb3⟩ := HF.out _ _ hown3 honto; clear hown3 honto)
    go_ret2
    exact ⟨_, _, rfl, hr3, hb3⟩
  · have hcm' : cap ≤ 9223372036854775807 := by simpa [maxLen] using hcm
    have hlc' : (bytes.length : Int) ≤ (cap : Int) := by omega
    have HRW := Lib.hid hrow
    by_cases hco : cap = off
    · have hk0 : k = 0 := by omega
      subst hk0
      have hsee := sees_piece (a := some ⟨g, 0, none⟩) (cap := 0) (off := off) (k := 0) HRW.out (by omega) (fun h => by omega) (by simp)
      have t4 : decide ((bytes.length : Int) - (cap : Int) < 0) = false := by simp; omega
      clear hA hl hd hE hE0 hrow hby hfin hu hk
      subst hco
      go_enter Tryz.func49, Tryz.ntmps49
      go_wp2_with fail
      refine hf.out.mono ?_
      rintro x w' ⟨rfl, rfl⟩
      go_wp2_with (at_builtin; refine wpList_append_onto rfl _ _ 58 rfl w.heap.size 5 i0 _ 1 1 Tryz.underlying58 hi0 hz0 hz1 hz2 rfl (by omega) (.slice none 0 0) 0 [] rfl hown (.slice (some ⟨g, 0, none⟩) 0 0) 0 (cellsOf ((bytes.drop cap).take 0)) rfl hsee (cellsOf_one _) (by unfold maxLen; omega) (by omega) (Nat.le_refl _) ?_; intro v' w3 hown3 honto; obtain ⟨a3, c3, rfl, hr3, hb3⟩ := HF.out _ _ hown3 honto; clear hown3 honto)
      go_ret2
      exact ⟨_, _, rfl, hr3, hb3⟩
    · have hsee := sees_piece (a := some ⟨g, off, none⟩) (cap := cap - off) (off := off) (k := k) HRW.out (by omega) (fun h => rfl) (by simp)
      have hsee2 : ∀ y, y = Value.slice (some ⟨g, off, none⟩) k (cap - off) → Sees w 1 y k (cellsOf ((bytes.drop off).take k)) := fun y h => h ▸ hsee
      have u1 : (off : Int) + (k : Int) ≤ (cap : Int) := by omega
      have u2 : (k : Int) ≤ 1000000000 := by omega
      clear hA hl hd hE hE0 hrow hby hfin hu hk hlc
      go_enter Tryz.func49, Tryz.ntmps49
      go_wp2_with fail
      refine hf.out.mono ?_
      rintro x w' ⟨rfl, rfl⟩
      go_wp2_with (at_builtin; refine wpList_append_onto rfl _ _ 58 rfl w.heap.size 5 i0 _ 1 1 Tryz.underlying58 hi0 hz0 hz1 hz2 rfl (by omega) (.slice none 0 0) 0 [] rfl hown _ k (cellsOf ((bytes.drop off).take k)) rfl (hsee2 _ (by simp [Act.eval])) (cellsOf_one _) (by unfold maxLen; omega) (by omega) (Nat.le_refl _) ?_; intro v' w3 hown3 honto; obtain ⟨a3, c3, rfl, hr3, hb3⟩ := HF.out _ _ hown3 honto; clear hown3 honto)
      go_ret2
      exact ⟨_, _, rfl, hr3, hb3⟩
set_option maxRecDepth 20000 in
set_option maxRecDepth 100000 in
set_option maxHeartbeats 2000000 in
theorem read_arg (hA : At w p S mb cr es D) (hd : S.down = false) (s : ByteArray) (hs : s.size ≤ maxLen) {e : Ent} (hl : look s.data.toList es = some e) (at_ k : Int) (h1 : at_ ≤ 9223372036854775807) (hk : at_ < 0 ∨ k < 0 ∨ (e.bytes.length : Int) - at_ < k) (hu : e.bytes.length ≤ 1000000000) :
    Calls Tryz.prog 49 #[.pointer (some ⟨p, 0, none⟩), .string s, .int .i64 at_, .int .i64 k] w fun x w' => x = .returned (.tuple #[.slice none 0 0, errV 1]) ∧ w = w' := by
  have hf := Lib.hid (find_some hA hd s hs hl)
  have hE := hA.ents _ (look_mem hl)
  obtain ⟨a, cap, hv, _⟩ := own_shape hE.2 (hA.ent (look_mem hl)).2
  have k0 : w.cell? ⟨e.fb, 0, none⟩ = some (.slice a e.bytes.length cap) := by rw [← hv]; exact hE.1.cell 0
  have hu' : (e.bytes.length : Int) ≤ 1000000000 := by omega
  clear hA hl hd hE hv hu
  by_cases t1 : at_ < 0
  · have t1' : decide (at_ < 0) = true := by simpa using t1
    clear hk hu' h1
    go_enter Tryz.func49, Tryz.ntmps49
    go_wp2_with fail
    refine hf.out.mono ?_
    rintro x w' ⟨rfl, rfl⟩
    go_wp2
    go_ret2
    exact ⟨rfl, rfl⟩
  · have t1' : decide (at_ < 0) = false := by simpa using t1
    by_cases t2 : k < 0
    · have t2' : decide (k < 0) = true := by simpa using t2
      clear hk hu' h1 t1
      go_enter Tryz.func49, Tryz.ntmps49
      go_wp2_with fail
      refine hf.out.mono ?_
      rintro x w' ⟨rfl, rfl⟩
      go_wp2
      go_ret2
      exact ⟨rfl, rfl⟩
    · have t2' : decide (k < 0) = false := by simpa using t2
      have t3 : (e.bytes.length : Int) - at_ < k := by omega
      have t3' : decide ((e.bytes.length : Int) - at_ < k) = true := by simpa using t3
      have t0 : 0 ≤ at_ := by omega
      clear hk t1 t2 t3
      go_enter Tryz.func49, Tryz.ntmps49
      go_wp2_with fail
      refine hf.out.mono ?_
      rintro x w' ⟨rfl, rfl⟩
      go_wp2
      go_ret2
      exact ⟨rfl, rfl⟩
theorem read_any (h : Has w p S F) (hu : used S ≤ 1000000000) (s : ByteArray) (hs : s.size ≤ maxLen) (at_ k : Int) (h1 : at_ ≤ 9223372036854775807) :
    Calls Tryz.prog 49 #[.pointer (some ⟨p, 0, none⟩), .string s, .int .i64 at_, .int .i64 k] w fun x w' =>
      ∃ a c, x = .returned (.tuple #[.slice a (readOf S s.data.toList at_ k).2.length c, errV (readOf S s.data.toList at_ k).1]) ∧ Row w' a (readOf S s.data.toList at_ k).2.length (readOf S s.data.toList at_ k).2 ∧ Below w.heap.size w w' := by
  obtain ⟨mb, cr, es, D, hA, hF, hlt⟩ := h
  rcases hd : S.down with _ | _
  · rcases hl : look s.data.toList es with _ | e
    · have e1 : readOf S s.data.toList at_ k = (5, []) := by
        unfold readOf
        rw [hd, hA.look, hl]; rfl
      rw [e1]
      have hf := Lib.hid (find_none hA hd s hs hl)
      clear hA e1 hF hlt hl hd hu h1
      go_enter Tryz.func49, Tryz.ntmps49
      go_wp2_with fail
      refine hf.out.mono ?_
      rintro x w' ⟨rfl, rfl⟩
      go_wp2
      go_ret2
      exact ⟨none, 0, rfl, Row.nil, Below.refl _ _⟩
    · have hlf : look s.data.toList S.files = some e.file := by rw [hA.look, hl]; rfl
      have hle : e.bytes.length ≤ 1000000000 := by
        have := total_le_of (f := fun e : Ent => e.bytes.length) (look_mem hl)
        rw [used_eq hA] at this
        exact Nat.le_trans this hu
      by_cases hb : at_ < 0 ∨ k < 0 ∨ (e.bytes.length : Int) - at_ < k
      · have e1 : readOf S s.data.toList at_ k = (1, []) := by
          unfold readOf
          rw [hd, hlf, if_neg (by simp)]
          exact if_pos hb
        rw [e1]
        refine (read_arg hA hd s hs hl at_ k h1 hb hle).mono ?_
        rintro x w' ⟨rfl, rfl⟩
        exact ⟨none, 0, rfl, Row.nil, Below.refl _ _⟩
      · have e1 : readOf S s.data.toList at_ k = (0, (e.bytes.drop at_.toNat).take k.toNat) := by
          unfold readOf
          rw [hd, hlf, if_neg (by simp)]
          exact if_neg hb
        rw [e1]
        obtain ⟨i, rfl⟩ := Int.eq_ofNat_of_zero_le (show 0 ≤ at_ by omega)
        obtain ⟨j, rfl⟩ := Int.eq_ofNat_of_zero_le (show 0 ≤ k by omega)
        have hlen : ((e.bytes.drop i).take j).length = j := by rw [List.length_take, List.length_drop]; omega
        rw [Int.toNat_natCast, Int.toNat_natCast]
        show Calls _ _ _ _ fun x w' => ∃ a c, x = .returned (.tuple #[.slice a ((e.bytes.drop i).take j).length c, errV 0]) ∧ Row w' a ((e.bytes.drop i).take j).length ((e.bytes.drop i).take j) ∧ Below w.heap.size w w'
        rw [hlen]
        exact (read_yes hA hd s hs hl i j (by omega) hle).mono fun x w' ⟨a, c, h1, h2, h3, _⟩ => ⟨a, c, h1, h2, h3⟩
  · have e1 : readOf S s.data.toList at_ k = (15, []) := by
      unfold readOf
      rw [hd]; rfl
    rw [e1]
    have hf := Lib.hid (find_down hA hd s)
    clear hA e1 hF hlt hd hu h1
    go_enter Tryz.func49, Tryz.ntmps49
    go_wp2_with fail
    refine hf.out.mono ?_
    rintro x w' ⟨rfl, rfl⟩
    go_wp2
    go_ret2
    exact ⟨none, 0, rfl, Row.nil, Below.refl _ _⟩
end
end Go.Proofs.YtkppliljlcihmaaGreatDoor.Disk
