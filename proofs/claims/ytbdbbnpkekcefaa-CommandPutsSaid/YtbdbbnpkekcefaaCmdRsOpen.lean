/- A response that came in, opened to its cells. -/
import Derived.Test.YtbdbbnpkekcefaaCmdOpen
import Derived.Test.YtbdbbnpkekcefaaGCmdEnc
namespace Go.Proofs.Ytbdbbnpkekcefaa.Cmd
open Go.Proofs.Ytbdbbnpkekcefaa.Mem Go.Proofs.Ytbdbbnpkekcefaa.Pack
open Go.Deep Go.ChangeShapes Go.WideShapes Go.ChangeAt Go.RowKit
set_option linter.unusedVariables false
set_option linter.unusedSimpArgs false

theorem olist14 {α : Type} {l : List α} (h : l.length = 14) : ∃ v0 v1 v2 v3 v4 v5 v6 v7 v8 v9 v10 v11 v12 v13, l = [v0, v1, v2, v3, v4, v5, v6, v7, v8, v9, v10, v11, v12, v13] := by
  obtain ⟨v0, r0, rfl, h0⟩ := olist_succ h
  obtain ⟨v1, r1, rfl, h1⟩ := olist_succ h0
  obtain ⟨v2, r2, rfl, h2⟩ := olist_succ h1
  obtain ⟨v3, r3, rfl, h3⟩ := olist_succ h2
  obtain ⟨v4, r4, rfl, h4⟩ := olist_succ h3
  obtain ⟨v5, r5, rfl, h5⟩ := olist_succ h4
  obtain ⟨v6, r6, rfl, h6⟩ := olist_succ h5
  obtain ⟨v7, r7, rfl, h7⟩ := olist_succ h6
  obtain ⟨v8, r8, rfl, h8⟩ := olist_succ h7
  obtain ⟨v9, r9, rfl, h9⟩ := olist_succ h8
  obtain ⟨v10, r10, rfl, h10⟩ := olist_succ h9
  obtain ⟨v11, r11, rfl, h11⟩ := olist_succ h10
  obtain ⟨v12, r12, rfl, h12⟩ := olist_succ h11
  obtain ⟨v13, r13, rfl, h13⟩ := olist_succ h12
  obtain rfl := List.eq_nil_of_length_eq_zero h13
  exact ⟨v0, v1, v2, v3, v4, v5, v6, v7, v8, v9, v10, v11, v12, v13, rfl⟩
/- What any response holds. -/
structure RsIn (r : Rs) : Prop where
  code : I64 r.code
  tok : TokSo r.tok
  ver : r.ver < 18446744073709551616
  seq : r.seq < 18446744073709551616
  pages : r.page.length ≤ 9223372036854775807
  buckets : r.buckets.length ≤ 9223372036854775807
  nums : ∀ z ∈ r.buckets, I64 z
  keys : I64 r.keys
  bytes : I64 r.bytes
  charged : I64 r.charged
section
variable {H : Type} {enc : TypeId × Value → H} {w : World} {spare : Nat → Bool} {held : Bool}
set_option maxRecDepth 100000 in
theorem opair_read {fuel : Nat} {cs : List Value} {z : DataW H × List MemPlace} (h : DataW.trod enc Try.prog w 0 spare held fuel 52 cs = some z) : ∃ o : ByteArray × ByteArray, cs = pcells o ∧ True := by
  have k_s : Try.prog.cellsOf 9 = 1 := by kernel_rfl
  have k_r : Try.prog.cellsOf 52 = 2 := by kernel_rfl
  obtain ⟨xs, n, _, _, hcl, hlen, hall⟩ := DataW.trod_struct Try.underlying52 h
  rw [k_r] at hcl
  clear h
  obtain ⟨v0, r0, rfl, hc0⟩ := olist_succ hcl
  obtain ⟨v1, r1, rfl, hc1⟩ := olist_succ hc0
  obtain rfl := List.eq_nil_of_length_eq_zero hc1
  match xs, hlen with
  | [y0, y1], _ =>
    have h0 := hall 0 _ rfl
    have h1 := hall 1 _ rfl
    clear hall
    simp [k_s] at h0 h1
    obtain ⟨n0, e0, _, w0⟩ := DataW.trod_string Try.underlying9 h0
    injection e0 with e0
    subst e0
    obtain ⟨n1, e1, _, w1⟩ := DataW.trod_string Try.underlying9 h1
    injection e1 with e1
    subst e1
    exact ⟨(n0, n1), rfl, trivial⟩
theorem oint_read {fuel : Nat} {cs : List Value} {z : DataW H × List MemPlace} (h : DataW.trod enc Try.prog w 0 spare held fuel 3 cs = some z) : ∃ o : Int, cs = icells o ∧ I64 o := by
  obtain ⟨n0, e0, _, w0⟩ := DataW.trod_int Try.underlying3 h
  exact ⟨n0, e0, owf64 w0⟩
set_option maxRecDepth 100000 in
theorem pairs_read {fuel : Nat} {v : Value} {y : DataW H × List MemPlace} (h : DataW.trod enc Try.prog w 0 (fun _ => true) true fuel 46 [v] = some y) :
    ∃ l : List (ByteArray × ByteArray), ShowsFrom pcells 2 0 w v l ∧ (∀ o ∈ l, True) ∧ l.length ≤ 9223372036854775807 := by
  have hmx : maxLen = 9223372036854775807 := rfl
  have hsz : Try.prog.cellsOf 52 = 2 := by kernel_rfl
  rcases open_slice Try.underlying46 h with ⟨hcs, _⟩ | ⟨x, len, c, m, n0, D, Pl, hcs, _, hl, hm, hmm, _, hi⟩
  · injection hcs with hv _
    exact ⟨[], ⟨none, 0, hv, fun h0 => absurd h0 (by simp)⟩, fun o h => by simp at h, Nat.zero_le _⟩
  · injection hcs with hv _
    have hmm' : m = c := by simpa using hmm
    have hall : ∀ i, ∃ o : ByteArray × ByteArray, i < len → ((True) ∧ ∀ j u, (pcells o)[j]? = some u → w.cell? ((x.add (i * 2)).add j) = some u) := by
      intro i
      by_cases hil : i < len
      · obtain ⟨cs, hc, hr⟩ := hi i (by omega)
        rw [hsz] at hc
        obtain ⟨r, rfl, hir⟩ := opair_read hr
        obtain ⟨_, hsize, hcells⟩ := World.cells?_some hc
        refine ⟨r, fun _ => ⟨hir, fun j u hu => ?_⟩⟩
        have hj : j < 2 := (List.getElem?_eq_some_iff.1 hu).1
        rw [hcells j hj]
        simpa using hu
      · exact ⟨(nothing, nothing), fun h => absurd h hil⟩
    obtain ⟨f, hf⟩ := Classical.skolem.1 hall
    have hlen : ((List.range len).map f).length = len := by simp
    refine ⟨(List.range len).map f, ⟨some x, c, by rw [hlen]; exact hv, fun hn => ?_⟩, fun r hr => ?_, by rw [hlen]; omega⟩
    · rw [hlen] at hn
      obtain ⟨b, off, spot⟩ := x
      have h0 := (hf 0 hn).2 0 _ rfl
      have hspot : spot = none := by simpa [Addr.add] using World.cell?_spot h0
      subst hspot
      refine ⟨b, off, rfl, Nat.zero_le _, block_lt_of_cell (a := ⟨b, off, none⟩) (by simpa [Addr.add] using h0), fun i hil j u hu => ?_⟩
      rw [hlen] at hil
      have h1 := (hf i hil).2 j u (by simpa using hu)
      rw [add_none, add_none] at h1
      exact h1
    · obtain ⟨i, hir, rfl⟩ := List.mem_map.1 hr
      exact (hf i (List.mem_range.1 hir)).1
set_option maxRecDepth 100000 in
theorem ints_read {fuel : Nat} {v : Value} {y : DataW H × List MemPlace} (h : DataW.trod enc Try.prog w 0 (fun _ => true) true fuel 47 [v] = some y) :
    ∃ l : List (Int), ShowsFrom icells 1 0 w v l ∧ (∀ o ∈ l, I64 o) ∧ l.length ≤ 9223372036854775807 := by
  have hmx : maxLen = 9223372036854775807 := rfl
  have hsz : Try.prog.cellsOf 3 = 1 := by kernel_rfl
  rcases open_slice Try.underlying47 h with ⟨hcs, _⟩ | ⟨x, len, c, m, n0, D, Pl, hcs, _, hl, hm, hmm, _, hi⟩
  · injection hcs with hv _
    exact ⟨[], ⟨none, 0, hv, fun h0 => absurd h0 (by simp)⟩, fun o h => by simp at h, Nat.zero_le _⟩
  · injection hcs with hv _
    have hmm' : m = c := by simpa using hmm
    have hall : ∀ i, ∃ o : Int, i < len → ((I64 o) ∧ ∀ j u, (icells o)[j]? = some u → w.cell? ((x.add (i * 1)).add j) = some u) := by
      intro i
      by_cases hil : i < len
      · obtain ⟨cs, hc, hr⟩ := hi i (by omega)
        rw [hsz] at hc
        obtain ⟨r, rfl, hir⟩ := oint_read hr
        obtain ⟨_, hsize, hcells⟩ := World.cells?_some hc
        refine ⟨r, fun _ => ⟨hir, fun j u hu => ?_⟩⟩
        have hj : j < 1 := (List.getElem?_eq_some_iff.1 hu).1
        rw [hcells j hj]
        simpa using hu
      · exact ⟨0, fun h => absurd h hil⟩
    obtain ⟨f, hf⟩ := Classical.skolem.1 hall
    have hlen : ((List.range len).map f).length = len := by simp
    refine ⟨(List.range len).map f, ⟨some x, c, by rw [hlen]; exact hv, fun hn => ?_⟩, fun r hr => ?_, by rw [hlen]; omega⟩
    · rw [hlen] at hn
      obtain ⟨b, off, spot⟩ := x
      have h0 := (hf 0 hn).2 0 _ rfl
      have hspot : spot = none := by simpa [Addr.add] using World.cell?_spot h0
      subst hspot
      refine ⟨b, off, rfl, Nat.zero_le _, block_lt_of_cell (a := ⟨b, off, none⟩) (by simpa [Addr.add] using h0), fun i hil j u hu => ?_⟩
      rw [hlen] at hil
      have h1 := (hf i hil).2 j u (by simpa using hu)
      rw [add_none, add_none] at h1
      exact h1
    · obtain ⟨i, hir, rfl⟩ := List.mem_map.1 hr
      exact (hf i (List.mem_range.1 hir)).1
set_option maxRecDepth 100000 in
theorem resp_read {fuel : Nat} {cs : List Value} {z : DataW H × List MemPlace} (h : DataW.trod enc Try.prog w 0 (fun _ => true) true fuel 49 cs = some z) :
    ∃ (r : Rs) (pv bv : Value), cs = (scells r pv bv).toList ∧ RsIn r ∧ ShowsFrom pcells 2 0 w pv r.page ∧ ShowsFrom icells 1 0 w bv r.buckets := by
  have k_int : Try.prog.cellsOf 3 = 1 := by kernel_rfl
  have k_i64 : Try.prog.cellsOf 2 = 1 := by kernel_rfl
  have k_b : Try.prog.cellsOf 4 = 1 := by kernel_rfl
  have k_s : Try.prog.cellsOf 9 = 1 := by kernel_rfl
  have k_u64 : Try.prog.cellsOf 24 = 1 := by kernel_rfl
  have k_t : Try.prog.cellsOf 29 = 4 := by kernel_rfl
  have k_p : Try.prog.cellsOf 46 = 1 := by kernel_rfl
  have k_n : Try.prog.cellsOf 47 = 1 := by kernel_rfl
  have k_r : Try.prog.cellsOf 49 = 14 := by kernel_rfl
  obtain ⟨xs, n, _, _, hcl, hlen, hall⟩ := DataW.trod_struct Try.underlying49 h
  rw [k_r] at hcl
  clear h
  obtain ⟨v0, v1, v2, v3, v4, v5, v6, v7, v8, v9, v10, v11, v12, v13, rfl⟩ := olist14 hcl
  match xs, hlen with
  | [y0, y1, y2, y3, y4, y5, y6, y7, y8, y9, y10], _ =>
    have h0 := hall 0 _ rfl
    have h1 := hall 1 _ rfl
    have h2 := hall 2 _ rfl
    have h3 := hall 3 _ rfl
    have h4 := hall 4 _ rfl
    have h5 := hall 5 _ rfl
    have h6 := hall 6 _ rfl
    have h7 := hall 7 _ rfl
    have h8 := hall 8 _ rfl
    have h9 := hall 9 _ rfl
    have h10 := hall 10 _ rfl
    clear hall
    simp [k_int, k_i64, k_b, k_s, k_u64, k_t, k_p, k_n] at h0 h1 h2 h3 h4 h5 h6 h7 h8 h9 h10
    obtain ⟨n0, e0, _, w0⟩ := DataW.trod_int Try.underlying3 h0
    injection e0 with e0
    subst e0
    obtain ⟨tt, ht, rfl, rfl, rfl, rfl⟩ := otok_read h1
    obtain ⟨n2, e2, _, w2⟩ := DataW.trod_int Try.underlying24 h2
    injection e2 with e2
    subst e2
    obtain ⟨n2, rfl, g2⟩ := owfu64 w2
    obtain ⟨n3, e3, _, w3⟩ := DataW.trod_string Try.underlying9 h3
    injection e3 with e3
    subst e3
    obtain ⟨l, hps, _, hpl⟩ := pairs_read h4
    obtain ⟨n5, e5, _⟩ := DataW.trod_bool Try.underlying4 h5
    injection e5 with e5
    subst e5
    obtain ⟨n6, e6, _, w6⟩ := DataW.trod_int Try.underlying2 h6
    injection e6 with e6
    subst e6
    obtain ⟨n7, e7, _, w7⟩ := DataW.trod_int Try.underlying2 h7
    injection e7 with e7
    subst e7
    obtain ⟨n8, e8, _, w8⟩ := DataW.trod_int Try.underlying2 h8
    injection e8 with e8
    subst e8
    obtain ⟨n9, e9, _, w9⟩ := DataW.trod_int Try.underlying24 h9
    injection e9 with e9
    subst e9
    obtain ⟨n9, rfl, g9⟩ := owfu64 w9
    obtain ⟨lb, hbs, hbi, hbl⟩ := ints_read h10
    exact ⟨⟨n0, tt, n2, n3, l, n5, n6, n7, n8, n9, lb⟩, _, _, rfl, ⟨owf64 w0, ht, g2, g9, hpl, hbl, hbi, owf64 w6, owf64 w7, owf64 w8⟩, hps, hbs⟩
end
end Go.Proofs.Ytbdbbnpkekcefaa.Cmd
