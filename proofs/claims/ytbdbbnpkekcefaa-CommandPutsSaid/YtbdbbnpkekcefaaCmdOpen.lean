/- A request that came in, opened to its cells. -/
import Derived.Test.YtbdbbnpkekcefaaCmdMem
import Derived.Deep.Slices
import Derived.Deep.Fields
import Derived.ChangeSame
import Derived.OpenShut
import Derived.ShutString
namespace Go.Proofs.Ytbdbbnpkekcefaa.Cmd
open Go.Proofs.Ytbdbbnpkekcefaa.Mem Go.Proofs.Ytbdbbnpkekcefaa.Pack
open Go.Deep Go.ChangeShapes Go.WideShapes Go.ChangeAt Go.RowKit
set_option linter.unusedVariables false
set_option linter.unusedSimpArgs false

theorem owf64 {n : Int} (h : (Lit.int .i64 n).wf = true) : I64 n := by
  have : -9223372036854775808 ≤ n ∧ n ≤ 9223372036854775807 := by simpa [Lit.wf, IntKind.min, IntKind.max, IntKind.signed, IntKind.bits] using h
  unfold I64
  omega
theorem owfu32 {n : Int} (h : (Lit.int .u32 n).wf = true) : ∃ k : Nat, n = (k : Int) ∧ k < 4294967296 := by
  have : 0 ≤ n ∧ n ≤ 4294967295 := by simpa [Lit.wf, IntKind.min, IntKind.max, IntKind.signed, IntKind.bits] using h
  exact ⟨n.toNat, by omega, by omega⟩
theorem owfu64 {n : Int} (h : (Lit.int .u64 n).wf = true) : ∃ k : Nat, n = (k : Int) ∧ k < 18446744073709551616 := by
  have : 0 ≤ n ∧ n ≤ 18446744073709551615 := by simpa [Lit.wf, IntKind.min, IntKind.max, IntKind.signed, IntKind.bits] using h
  exact ⟨n.toNat, by omega, by omega⟩
theorem olist_succ {α : Type} {l : List α} {n : Nat} (h : l.length = n + 1) : ∃ a r, l = a :: r ∧ r.length = n := by
  cases l with
  | nil => cases h
  | cons a r => exact ⟨a, r, rfl, by simpa using h⟩
theorem olist16 {α : Type} {l : List α} (h : l.length = 16) : ∃ v0 v1 v2 v3 v4 v5 v6 v7 v8 v9 v10 v11 v12 v13 v14 v15, l = [v0, v1, v2, v3, v4, v5, v6, v7, v8, v9, v10, v11, v12, v13, v14, v15] := by
  obtain ⟨v0, r0, rfl, h0⟩ := olist_succ h
  obtain ⟨v1, r1, rfl, h1⟩ := olist_succ h0
  obtain ⟨v2, r2, rfl, h2⟩ := olist_succ h1
  obtain ⟨v3, r3, rfl, h3⟩ := olist_succ h2
  obtain ⟨v4, r4, rfl, h4⟩ := olist_succ h3
  obtain ⟨v5, r5, rfl, h5⟩ := olist_succ h4
  obtain ⟨v6, r6, rfl, h6⟩ := olist_succ h5
  obtain ⟨v7, r7, rfl, h7⟩ := olist_succ h6
  obtain ⟨v8, r8, rfl, h8⟩ := olist_succ h7
  obtain ⟨v9, r9, rfl, h9⟩ := olist_succ h8
  obtain ⟨v10, r10, rfl, h10⟩ := olist_succ h9
  obtain ⟨v11, r11, rfl, h11⟩ := olist_succ h10
  obtain ⟨v12, r12, rfl, h12⟩ := olist_succ h11
  obtain ⟨v13, r13, rfl, h13⟩ := olist_succ h12
  obtain ⟨v14, r14, rfl, h14⟩ := olist_succ h13
  obtain ⟨v15, r15, rfl, h15⟩ := olist_succ h14
  obtain rfl := List.eq_nil_of_length_eq_zero h15
  exact ⟨v0, v1, v2, v3, v4, v5, v6, v7, v8, v9, v10, v11, v12, v13, v14, v15, rfl⟩
theorem olist5 {α : Type} {l : List α} (h : l.length = 5) : ∃ v0 v1 v2 v3 v4, l = [v0, v1, v2, v3, v4] := by
  obtain ⟨v0, r0, rfl, h0⟩ := olist_succ h
  obtain ⟨v1, r1, rfl, h1⟩ := olist_succ h0
  obtain ⟨v2, r2, rfl, h2⟩ := olist_succ h1
  obtain ⟨v3, r3, rfl, h3⟩ := olist_succ h2
  obtain ⟨v4, r4, rfl, h4⟩ := olist_succ h3
  obtain rfl := List.eq_nil_of_length_eq_zero h4
  exact ⟨v0, v1, v2, v3, v4, rfl⟩
section
variable {H : Type} {enc : TypeId × Value → H} {w : World} {spare : Nat → Bool} {held : Bool}
set_option maxRecDepth 100000 in
theorem oquo_read {fuel : Nat} {v0 v1 v2 : Value} {z : DataW H × List MemPlace} (h : DataW.trod enc Try.prog w 0 spare held fuel 26 [v0, v1, v2] = some z) : ∃ q : Quo, QuoIs q ∧ v0 = .int .i64 q.k ∧ v1 = .int .i64 q.b ∧ v2 = .int .i64 q.g := by
  have k2 : Try.prog.cellsOf 2 = 1 := by kernel_rfl
  obtain ⟨xs, n, _, _, _, hlen, hall⟩ := DataW.trod_struct Try.underlying26 h
  match xs, hlen with
  | [y0, y1, y2], _ =>
    have h0 := hall 0 _ rfl
    have h1 := hall 1 _ rfl
    have h2 := hall 2 _ rfl
    simp [k2] at h0 h1 h2
    obtain ⟨a, e0, _, w0⟩ := DataW.trod_int Try.underlying2 h0
    obtain ⟨b, e1, _, w1⟩ := DataW.trod_int Try.underlying2 h1
    obtain ⟨c, e2, _, w2⟩ := DataW.trod_int Try.underlying2 h2
    injection e0 with e0
    injection e1 with e1
    injection e2 with e2
    exact ⟨⟨a, b, c⟩, ⟨owf64 w0, owf64 w1, owf64 w2⟩, e0, e1, e2⟩
set_option maxRecDepth 100000 in
theorem otok_read {fuel : Nat} {v0 v1 v2 v3 : Value} {z : DataW H × List MemPlace} (h : DataW.trod enc Try.prog w 0 spare held fuel 29 [v0, v1, v2, v3] = some z) : ∃ t : Tok, TokSo t ∧ v0 = .int .i64 t.b ∧ v1 = .int .u32 (t.g : Int) ∧ v2 = .int .u32 (t.s : Int) ∧ v3 = .int .u64 (t.x : Int) := by
  have k_int : Try.prog.cellsOf 3 = 1 := by kernel_rfl
  have k_u32 : Try.prog.cellsOf 27 = 1 := by kernel_rfl
  have k_u64 : Try.prog.cellsOf 24 = 1 := by kernel_rfl
  obtain ⟨xs, n, _, _, _, hlen, hall⟩ := DataW.trod_struct Try.underlying29 h
  match xs, hlen with
  | [y0, y1, y2, y3], _ =>
    have h0 := hall 0 _ rfl
    have h1 := hall 1 _ rfl
    have h2 := hall 2 _ rfl
    have h3 := hall 3 _ rfl
    simp [k_int, k_u32, k_u64] at h0 h1 h2 h3
    obtain ⟨a, e0, _, w0⟩ := DataW.trod_int Try.underlying3 h0
    obtain ⟨b, e1, _, w1⟩ := DataW.trod_int Try.underlying27 h1
    obtain ⟨b, rfl, g1⟩ := owfu32 w1
    obtain ⟨c, e2, _, w2⟩ := DataW.trod_int Try.underlying27 h2
    obtain ⟨c, rfl, g2⟩ := owfu32 w2
    obtain ⟨d, e3, _, w3⟩ := DataW.trod_int Try.underlying24 h3
    obtain ⟨d, rfl, g3⟩ := owfu64 w3
    injection e0 with e0
    injection e1 with e1
    injection e2 with e2
    injection e3 with e3
    exact ⟨⟨a, b, c, d⟩, ⟨owf64 w0, g1, g2, g3⟩, e0, e1, e2, e3⟩
set_option maxRecDepth 100000 in
theorem oop_read {fuel : Nat} {cs : List Value} {z : DataW H × List MemPlace} (h : DataW.trod enc Try.prog w 0 spare held fuel 87 cs = some z) : ∃ o : Op, cs = ocells o ∧ OpIs o := by
  have k_b : Try.prog.cellsOf 4 = 1 := by kernel_rfl
  have k_s : Try.prog.cellsOf 9 = 1 := by kernel_rfl
  have k_u64 : Try.prog.cellsOf 24 = 1 := by kernel_rfl
  have k_r : Try.prog.cellsOf 87 = 5 := by kernel_rfl
  obtain ⟨xs, n, _, _, hcl, hlen, hall⟩ := DataW.trod_struct Try.underlying87 h
  rw [k_r] at hcl
  clear h
  obtain ⟨v0, v1, v2, v3, v4, rfl⟩ := olist5 hcl
  match xs, hlen with
  | [y0, y1, y2, y3, y4], _ =>
    have h0 := hall 0 _ rfl
    have h1 := hall 1 _ rfl
    have h2 := hall 2 _ rfl
    have h3 := hall 3 _ rfl
    have h4 := hall 4 _ rfl
    clear hall
    simp [k_b, k_s, k_u64] at h0 h1 h2 h3 h4
    obtain ⟨b, e0, _⟩ := DataW.trod_bool Try.underlying4 h0
    injection e0 with e0
    subst e0
    obtain ⟨n1, e1, _, w1⟩ := DataW.trod_string Try.underlying9 h1
    injection e1 with e1
    subst e1
    obtain ⟨n2, e2, _, w2⟩ := DataW.trod_string Try.underlying9 h2
    injection e2 with e2
    subst e2
    obtain ⟨n3, e3, _, w3⟩ := DataW.trod_int Try.underlying24 h3
    injection e3 with e3
    subst e3
    obtain ⟨n3, rfl, g3⟩ := owfu64 w3
    obtain ⟨n4, e4, _, w4⟩ := DataW.trod_int Try.underlying24 h4
    injection e4 with e4
    subst e4
    obtain ⟨n4, rfl, g4⟩ := owfu64 w4
    exact ⟨⟨b, n1, n2, n3, n4⟩, rfl, ⟨g3, g4⟩⟩
set_option maxRecDepth 100000 in
theorem ops_read {fuel : Nat} {v : Value} {y : DataW H × List MemPlace} (h : DataW.trod enc Try.prog w 0 (fun _ => true) true fuel 30 [v] = some y) :
    ∃ l : List Op, OpsAt w v l ∧ (∀ o ∈ l, OpIs o) ∧ l.length ≤ 9223372036854775807 := by
  have hmx : maxLen = 9223372036854775807 := rfl
  have hsz : Try.prog.cellsOf 87 = 5 := by kernel_rfl
  rcases open_slice Try.underlying30 h with ⟨hcs, _⟩ | ⟨x, len, c, m, n0, D, Pl, hcs, _, hl, hm, hmm, _, hi⟩
  · injection hcs with hv _
    exact ⟨[], ⟨none, 0, hv, fun h0 => absurd h0 (by simp)⟩, fun o h => by simp at h, Nat.zero_le _⟩
  · injection hcs with hv _
    have hmm' : m = c := by simpa using hmm
    have hall : ∀ i, ∃ r : Op, i < len → (OpIs r ∧ ∀ j u, (ocells r)[j]? = some u → w.cell? ((x.add (i * 5)).add j) = some u) := by
      intro i
      by_cases hil : i < len
      · obtain ⟨cs, hc, hr⟩ := hi i (by omega)
        rw [hsz] at hc
        obtain ⟨r, rfl, hir⟩ := oop_read hr
        obtain ⟨_, hsize, hcells⟩ := World.cells?_some hc
        refine ⟨r, fun _ => ⟨hir, fun j u hu => ?_⟩⟩
        have hj : j < 5 := by rw [← ocells_length r]; exact (List.getElem?_eq_some_iff.1 hu).1
        rw [hcells j hj]
        simpa using hu
      · exact ⟨⟨false, nothing, nothing, 0, 0⟩, fun h => absurd h hil⟩
    obtain ⟨f, hf⟩ := Classical.skolem.1 hall
    have hlen : ((List.range len).map f).length = len := by simp
    refine ⟨(List.range len).map f, ⟨some x, c, by rw [hlen]; exact hv, fun hn => ?_⟩, fun r hr => ?_, by rw [hlen]; omega⟩
    · rw [hlen] at hn
      obtain ⟨b, off, spot⟩ := x
      have h0 := (hf 0 hn).2 0 _ rfl
      have hspot : spot = none := by simpa [Addr.add] using World.cell?_spot h0
      subst hspot
      refine ⟨b, off, rfl, block_lt_of_cell (a := ⟨b, off, none⟩) (by simpa [Addr.add] using h0), fun i hil j u hu => ?_⟩
      rw [hlen] at hil
      have h1 := (hf i hil).2 j u (by simpa using hu)
      rw [add_none, add_none] at h1
      exact h1
    · obtain ⟨i, hir, rfl⟩ := List.mem_map.1 hr
      exact (hf i (List.mem_range.1 hir)).1
set_option maxRecDepth 100000 in
theorem req_read {fuel : Nat} {cs : List Value} {z : DataW H × List MemPlace} (h : DataW.trod enc Try.prog w 0 (fun _ => true) true fuel 32 cs = some z) :
    ∃ (q : Rq) (sv : Value), cs = (rcells q sv).toList ∧ RqIs q ∧ OpsAt w sv q.ops ∧ q.ops.length ≤ 9223372036854775807 := by
  have k_int : Try.prog.cellsOf 3 = 1 := by kernel_rfl
  have k_b : Try.prog.cellsOf 4 = 1 := by kernel_rfl
  have k_s : Try.prog.cellsOf 9 = 1 := by kernel_rfl
  have k_u32 : Try.prog.cellsOf 27 = 1 := by kernel_rfl
  have k_u64 : Try.prog.cellsOf 24 = 1 := by kernel_rfl
  have k_q : Try.prog.cellsOf 26 = 3 := by kernel_rfl
  have k_t : Try.prog.cellsOf 29 = 4 := by kernel_rfl
  have k_o : Try.prog.cellsOf 30 = 1 := by kernel_rfl
  have k_r : Try.prog.cellsOf 32 = 16 := by kernel_rfl
  obtain ⟨xs, n, _, _, hcl, hlen, hall⟩ := DataW.trod_struct Try.underlying32 h
  rw [k_r] at hcl
  clear h
  obtain ⟨v0, v1, v2, v3, v4, v5, v6, v7, v8, v9, v10, v11, v12, v13, v14, v15, rfl⟩ := olist16 hcl
  match xs, hlen with
  | [y0, y1, y2, y3, y4, y5, y6, y7, y8, y9, y10], _ =>
    have h0 := hall 0 _ rfl
    have h1 := hall 1 _ rfl
    have h2 := hall 2 _ rfl
    have h3 := hall 3 _ rfl
    have h4 := hall 4 _ rfl
    have h5 := hall 5 _ rfl
    have h6 := hall 6 _ rfl
    have h7 := hall 7 _ rfl
    have h8 := hall 8 _ rfl
    have h9 := hall 9 _ rfl
    have h10 := hall 10 _ rfl
    clear hall
    simp [k_int, k_b, k_s, k_u32, k_u64, k_q, k_t, k_o] at h0 h1 h2 h3 h4 h5 h6 h7 h8 h9 h10
    obtain ⟨n0, e0, _, w0⟩ := DataW.trod_int Try.underlying3 h0
    injection e0 with e0
    subst e0
    obtain ⟨n1, e1, _, w1⟩ := DataW.trod_int Try.underlying24 h1
    injection e1 with e1
    subst e1
    obtain ⟨n1, rfl, g1⟩ := owfu64 w1
    obtain ⟨n2, e2, _, w2⟩ := DataW.trod_int Try.underlying3 h2
    injection e2 with e2
    subst e2
    obtain ⟨qq, hq, rfl, rfl, rfl⟩ := oquo_read h3
    obtain ⟨tt, ht, rfl, rfl, rfl, rfl⟩ := otok_read h4
    obtain ⟨l, hops, hopi, hol⟩ := ops_read h5
    obtain ⟨n6, e6, _, w6⟩ := DataW.trod_string Try.underlying9 h6
    injection e6 with e6
    subst e6
    obtain ⟨n7, e7, _⟩ := DataW.trod_bool Try.underlying4 h7
    injection e7 with e7
    subst e7
    obtain ⟨n8, e8, _, w8⟩ := DataW.trod_int Try.underlying3 h8
    injection e8 with e8
    subst e8
    obtain ⟨n9, e9, _, w9⟩ := DataW.trod_int Try.underlying3 h9
    injection e9 with e9
    subst e9
    obtain ⟨n10, e10, _, w10⟩ := DataW.trod_int Try.underlying27 h10
    injection e10 with e10
    subst e10
    obtain ⟨n10, rfl, g10⟩ := owfu32 w10
    exact ⟨⟨n0, n1, n2, qq, tt, l, n6, n7, n8, n9, n10⟩, _, rfl, ⟨owf64 w0, g1, owf64 w2, hq, ht, hopi, owf64 w8, owf64 w9, g10⟩, hops, hol⟩
end
end Go.Proofs.Ytbdbbnpkekcefaa.Cmd
