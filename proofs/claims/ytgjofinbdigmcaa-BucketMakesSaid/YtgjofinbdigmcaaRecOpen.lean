/- A record, and a slice of records, that came in, opened to their cells. -/
import Derived.Test.YtgjofinbdigmcaaRecLate
import Derived.Deep.Slices
import Derived.Deep.Fields
import Derived.ChangeSame
import Derived.OpenShut
import Derived.ShutString
namespace Go.Proofs.Ytgjofinbdigmcaa.Rec
open Go.Proofs.Ytgjofinbdigmcaa.Mem Go.Proofs.Ytgjofinbdigmcaa.Pack
open Go.Deep Go.ChangeShapes Go.WideShapes Go.ChangeAt Go.RowKit
set_option linter.unusedVariables false
set_option linter.unusedSimpArgs false

theorem wf64 {n : Int} (h : (Lit.int .i64 n).wf = true) : -9223372036854775808 ≤ n ∧ n ≤ 9223372036854775807 := by
  simpa [Lit.wf, IntKind.min, IntKind.max, IntKind.signed, IntKind.bits] using h
theorem wfu32 {n : Int} (h : (Lit.int .u32 n).wf = true) : ∃ k : Nat, n = (k : Int) ∧ k < 4294967296 := by
  have : 0 ≤ n ∧ n ≤ 4294967295 := by simpa [Lit.wf, IntKind.min, IntKind.max, IntKind.signed, IntKind.bits] using h
  exact ⟨n.toNat, by omega, by omega⟩
theorem wfu64 {n : Int} (h : (Lit.int .u64 n).wf = true) : ∃ k : Nat, n = (k : Int) ∧ k < 18446744073709551616 := by
  have : 0 ≤ n ∧ n ≤ 18446744073709551615 := by simpa [Lit.wf, IntKind.min, IntKind.max, IntKind.signed, IntKind.bits] using h
  exact ⟨n.toNat, by omega, by omega⟩
theorem list_succ {α : Type} {l : List α} {n : Nat} (h : l.length = n + 1) : ∃ a r, l = a :: r ∧ r.length = n := by
  cases l with
  | nil => cases h
  | cons a r => exact ⟨a, r, rfl, by simpa using h⟩
theorem list12 {α : Type} {l : List α} (h : l.length = 12) : ∃ y0 y1 y2 y3 y4 y5 y6 y7 y8 y9 y10 y11, l = [y0, y1, y2, y3, y4, y5, y6, y7, y8, y9, y10, y11] := by
  obtain ⟨y0, r0, rfl, h0⟩ := list_succ h
  obtain ⟨y1, r1, rfl, h1⟩ := list_succ h0
  obtain ⟨y2, r2, rfl, h2⟩ := list_succ h1
  obtain ⟨y3, r3, rfl, h3⟩ := list_succ h2
  obtain ⟨y4, r4, rfl, h4⟩ := list_succ h3
  obtain ⟨y5, r5, rfl, h5⟩ := list_succ h4
  obtain ⟨y6, r6, rfl, h6⟩ := list_succ h5
  obtain ⟨y7, r7, rfl, h7⟩ := list_succ h6
  obtain ⟨y8, r8, rfl, h8⟩ := list_succ h7
  obtain ⟨y9, r9, rfl, h9⟩ := list_succ h8
  obtain ⟨y10, r10, rfl, h10⟩ := list_succ h9
  obtain ⟨y11, r11, rfl, h11⟩ := list_succ h10
  obtain rfl := List.eq_nil_of_length_eq_zero h11
  exact ⟨y0, y1, y2, y3, y4, y5, y6, y7, y8, y9, y10, y11, rfl⟩
theorem list14 {α : Type} {l : List α} (h : l.length = 14) : ∃ v0 v1 v2 v3 v4 v5 v6 v7 v8 v9 v10 v11 v12 v13, l = [v0, v1, v2, v3, v4, v5, v6, v7, v8, v9, v10, v11, v12, v13] := by
  obtain ⟨v0, r0, rfl, h0⟩ := list_succ h
  obtain ⟨v1, r1, rfl, h1⟩ := list_succ h0
  obtain ⟨v2, r2, rfl, h2⟩ := list_succ h1
  obtain ⟨v3, r3, rfl, h3⟩ := list_succ h2
  obtain ⟨v4, r4, rfl, h4⟩ := list_succ h3
  obtain ⟨v5, r5, rfl, h5⟩ := list_succ h4
  obtain ⟨v6, r6, rfl, h6⟩ := list_succ h5
  obtain ⟨v7, r7, rfl, h7⟩ := list_succ h6
  obtain ⟨v8, r8, rfl, h8⟩ := list_succ h7
  obtain ⟨v9, r9, rfl, h9⟩ := list_succ h8
  obtain ⟨v10, r10, rfl, h10⟩ := list_succ h9
  obtain ⟨v11, r11, rfl, h11⟩ := list_succ h10
  obtain ⟨v12, r12, rfl, h12⟩ := list_succ h11
  obtain ⟨v13, r13, rfl, h13⟩ := list_succ h12
  obtain rfl := List.eq_nil_of_length_eq_zero h13
  exact ⟨v0, v1, v2, v3, v4, v5, v6, v7, v8, v9, v10, v11, v12, v13, rfl⟩
section
variable {H : Type} {enc : TypeId × Value → H} {w : World} {spare : Nat → Bool} {held : Bool}
set_option maxRecDepth 100000 in
theorem quota_read {fuel : Nat} {v0 v1 v2 : Value} {z : DataW H × List MemPlace} (h : DataW.trod enc Try.prog w 0 spare held fuel 23 [v0, v1, v2] = some z) : ∃ a b c : Int, v0 = .int .i64 a ∧ v1 = .int .i64 b ∧ v2 = .int .i64 c := by
  have k2 : Try.prog.cellsOf 2 = 1 := by kernel_rfl
  obtain ⟨xs, n, _, _, _, hlen, hall⟩ := DataW.trod_struct Try.underlying23 h
  match xs, hlen with
  | [y0, y1, y2], _ =>
    have h0 := hall 0 _ rfl
    have h1 := hall 1 _ rfl
    have h2 := hall 2 _ rfl
    simp [k2] at h0 h1 h2
    obtain ⟨a, e0, _, _⟩ := DataW.trod_int Try.underlying2 h0
    obtain ⟨b, e1, _, _⟩ := DataW.trod_int Try.underlying2 h1
    obtain ⟨c, e2, _, _⟩ := DataW.trod_int Try.underlying2 h2
    injection e0 with e0
    injection e1 with e1
    injection e2 with e2
    exact ⟨a, b, c, e0, e1, e2⟩
set_option maxRecDepth 100000 in
theorem rec_read {fuel : Nat} {cs : List Value} {z : DataW H × List MemPlace} (h : DataW.trod enc Try.prog w 0 spare held fuel 33 cs = some z) : ∃ r : Rcd, cs = (cells r).toList ∧ Is r := by
  have k_int : Try.prog.cellsOf 3 = 1 := by kernel_rfl
  have k_uint32 : Try.prog.cellsOf 29 = 1 := by kernel_rfl
  have k_uint64 : Try.prog.cellsOf 31 = 1 := by kernel_rfl
  have k_string : Try.prog.cellsOf 9 = 1 := by kernel_rfl
  have k_q : Try.prog.cellsOf 23 = 3 := by kernel_rfl
  have k_r : Try.prog.cellsOf 33 = 14 := by kernel_rfl
  obtain ⟨xs, n, _, _, hcl, hlen, hall⟩ := DataW.trod_struct Try.underlying33 h
  rw [k_r] at hcl
  clear h
  obtain ⟨v0, v1, v2, v3, v4, v5, v6, v7, v8, v9, v10, v11, v12, v13, rfl⟩ := list14 hcl
  obtain ⟨y0, y1, y2, y3, y4, y5, y6, y7, y8, y9, y10, y11, rfl⟩ := list12 hlen
  have h0 := hall 0 _ rfl
  have h1 := hall 1 _ rfl
  have h2 := hall 2 _ rfl
  have h3 := hall 3 _ rfl
  have h4 := hall 4 _ rfl
  have h5 := hall 5 _ rfl
  have h6 := hall 6 _ rfl
  have h7 := hall 7 _ rfl
  have h8 := hall 8 _ rfl
  have h9 := hall 9 _ rfl
  have h10 := hall 10 _ rfl
  have h11 := hall 11 _ rfl
  clear hall
  simp [k_int, k_uint32, k_uint64, k_string, k_q] at h0 h1 h2 h3 h4 h5 h6 h7 h8 h9 h10 h11
  obtain ⟨n0, e0, _, w0⟩ := DataW.trod_int Try.underlying3 h0
  injection e0 with e0
  subst e0
  have g0 := wf64 w0
  obtain ⟨n1, e1, _, w1⟩ := DataW.trod_int Try.underlying3 h1
  injection e1 with e1
  subst e1
  have g1 := wf64 w1
  obtain ⟨n2, e2, _, w2⟩ := DataW.trod_int Try.underlying29 h2
  injection e2 with e2
  subst e2
  obtain ⟨n2, rfl, g2⟩ := wfu32 w2
  obtain ⟨qa, qb, qc, rfl, rfl, rfl⟩ := quota_read h3
  obtain ⟨n4, e4, _, w4⟩ := DataW.trod_int Try.underlying31 h4
  injection e4 with e4
  subst e4
  obtain ⟨n4, rfl, g4⟩ := wfu64 w4
  obtain ⟨n5, e5, _, w5⟩ := DataW.trod_int Try.underlying29 h5
  injection e5 with e5
  subst e5
  obtain ⟨n5, rfl, g5⟩ := wfu32 w5
  obtain ⟨n6, e6, _, w6⟩ := DataW.trod_int Try.underlying3 h6
  injection e6 with e6
  subst e6
  have g6 := wf64 w6
  obtain ⟨n7, e7, _, w7⟩ := DataW.trod_int Try.underlying31 h7
  injection e7 with e7
  subst e7
  obtain ⟨n7, rfl, g7⟩ := wfu64 w7
  obtain ⟨n8, e8, _, w8⟩ := DataW.trod_string Try.underlying9 h8
  injection e8 with e8
  subst e8
  obtain ⟨n9, e9, _, w9⟩ := DataW.trod_string Try.underlying9 h9
  injection e9 with e9
  subst e9
  obtain ⟨n10, e10, _, w10⟩ := DataW.trod_int Try.underlying31 h10
  injection e10 with e10
  subst e10
  obtain ⟨n10, rfl, g10⟩ := wfu64 w10
  obtain ⟨n11, e11, _, w11⟩ := DataW.trod_int Try.underlying31 h11
  injection e11 with e11
  subst e11
  obtain ⟨n11, rfl, g11⟩ := wfu64 w11
  have hmx : maxLen = 9223372036854775807 := rfl
  rw [hmx] at w8 w9
  exact ⟨⟨n0, n1, n2, qa, qb, qc, n4, n5, n6, n7, n8, n9, n10, n11⟩, rfl, ⟨g0, g1, g2, g4, g5, g6, g7, w8, w9, g10, g11⟩⟩
set_option maxRecDepth 100000 in
theorem recs_read {fuel : Nat} {v : Value} {y : DataW H × List MemPlace} (h : DataW.trod enc Try.prog w 0 (fun _ => true) true fuel 44 [v] = some y) :
    ∃ (a : Option Addr) (l : List Rcd) (cap : Nat), v = .slice a l.length cap ∧ Recs w a l ∧ l.length ≤ cap ∧ cap ≤ maxLen := by
  have hsz : Try.prog.cellsOf 33 = 14 := by kernel_rfl
  rcases open_slice Try.underlying44 h with ⟨hcs, _⟩ | ⟨x, len, c, m, n0, D, Pl, hcs, _, hl, hm, hmm, _, hi⟩
  · injection hcs with hv _
    exact ⟨none, [], 0, hv, Recs.nil _ _, Nat.le_refl _, Nat.zero_le _⟩
  · injection hcs with hv _
    have hmm' : m = c := by simpa using hmm
    have hall : ∀ i, ∃ r : Rcd, i < len → (Is r ∧ ∀ j u, (cells r)[j]? = some u → w.cell? ((x.add (i * 14)).add j) = some u) := by
      intro i
      by_cases hil : i < len
      · obtain ⟨cs, hc, hr⟩ := hi i (by omega)
        rw [hsz] at hc
        obtain ⟨r, rfl, hir⟩ := rec_read hr
        obtain ⟨_, hsize, hcells⟩ := World.cells?_some hc
        refine ⟨r, fun _ => ⟨hir, fun j u hu => ?_⟩⟩
        have hj : j < 14 := (Array.getElem?_eq_some_iff.1 hu).1
        rw [hcells j hj]
        simpa using hu
      · exact ⟨zero, fun h => absurd h hil⟩
    obtain ⟨f, hf⟩ := Classical.skolem.1 hall
    have hlen : ((List.range len).map f).length = len := by simp
    refine ⟨some x, (List.range len).map f, c, by rw [hlen]; exact hv, ⟨fun r hr => ?_, fun hn => ?_⟩, by rw [hlen]; exact hl, hm⟩
    · obtain ⟨i, hir, rfl⟩ := List.mem_map.1 hr
      exact (hf i (List.mem_range.1 hir)).1
    · rw [hlen] at hn
      obtain ⟨b, off, spot⟩ := x
      have h0 := (hf 0 hn).2 0 _ rfl
      have hspot : spot = none := by simpa [Addr.add] using World.cell?_spot h0
      subst hspot
      refine ⟨b, off, rfl, block_lt_of_cell (a := ⟨b, off, none⟩) (by simpa [Addr.add] using h0), fun i hil j u hu => ?_⟩
      rw [hlen] at hil
      have h1 := (hf i hil).2 j u (by simpa using hu)
      rw [add_none, add_none] at h1
      exact h1
end
end Go.Proofs.Ytgjofinbdigmcaa.Rec
