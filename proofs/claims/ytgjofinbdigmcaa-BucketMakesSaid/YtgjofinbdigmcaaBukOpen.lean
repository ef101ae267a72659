/- Deeds that came in, opened to their cells. -/
import Derived.Test.YtgjofinbdigmcaaBukApply
import Derived.Test.YtgjofinbdigmcaaRecOpen
namespace Go.Proofs.Ytgjofinbdigmcaa.Buk
open Go.Proofs.Ytgjofinbdigmcaa.Mem
open Go.Deep Go.ChangeShapes Go.WideShapes Go.ChangeAt Go.RowKit
set_option linter.unusedVariables false
set_option linter.unusedSimpArgs false
structure Deed where
  tick : Bool
  now : Nat
  r : Rcd
  p : Spt
def dcells (x : Deed) : List Value := .bool x.tick :: .int .u64 (x.now : Int) :: (rcs x.r ++ [.int .i64 x.p.1, .int .i64 x.p.2.1, .int .i64 x.p.2.2])
theorem dcells_length (x : Deed) : (dcells x).length = 19 := rfl
structure OkD (x : Deed) : Prop where
  now : x.now < 18446744073709551616
  r : Rec.Is x.r
  p : SpOk x.p
structure Deeds (w : World) (a : Option Addr) (l : List Deed) : Prop where
  is_ : ∀ x ∈ l, OkD x
  at_ : 0 < l.length → ∃ g o, a = some ⟨g, o, none⟩ ∧ g < w.heap.size ∧ ∀ i (h : i < l.length), ∀ j u, (dcells l[i])[j]? = some u → w.cell? ⟨g, o + i * 19 + j, none⟩ = some u
section
variable {H : Type} {enc : TypeId × Value → H} {w : World} {spare : Nat → Bool} {held : Bool}
theorem list3 {α : Type} {l : List α} (h : l.length = 3) : ∃ y0 y1 y2, l = [y0, y1, y2] := by
  rcases l with _ | ⟨a, _ | ⟨b, _ | ⟨c, _ | ⟨d, r⟩⟩⟩⟩ <;> simp at h
  exact ⟨a, b, c, rfl⟩
set_option maxRecDepth 100000 in
theorem spot_read {fuel : Nat} {cs : List Value} {z : DataW H × List MemPlace} (h : DataW.trod enc Try.prog w 0 spare held fuel 35 cs = some z) : ∃ p : Spt, cs = [.int .i64 p.1, .int .i64 p.2.1, .int .i64 p.2.2] ∧ SpOk p := by
  have k_int : Try.prog.cellsOf 3 = 1 := by kernel_rfl
  have k_r : Try.prog.cellsOf 35 = 3 := by kernel_rfl
  obtain ⟨xs, n, _, _, hcl, hlen, hall⟩ := DataW.trod_struct Try.underlying35 h
  rw [k_r] at hcl
  clear h
  obtain ⟨v0, v1, v2, rfl⟩ := list3 hcl
  obtain ⟨y0, y1, y2, rfl⟩ := list3 hlen
  have h0 := hall 0 _ rfl
  have h1 := hall 1 _ rfl
  have h2 := hall 2 _ rfl
  clear hall
  simp [k_int] at h0 h1 h2
  obtain ⟨n0, e0, _, w0⟩ := DataW.trod_int Try.underlying3 h0
  injection e0 with e0
  subst e0
  obtain ⟨n1, e1, _, w1⟩ := DataW.trod_int Try.underlying3 h1
  injection e1 with e1
  subst e1
  obtain ⟨n2, e2, _, w2⟩ := DataW.trod_int Try.underlying3 h2
  injection e2 with e2
  subst e2
  exact ⟨(n0, n1, n2), rfl, ⟨Rec.wf64 w0, Rec.wf64 w1, Rec.wf64 w2⟩⟩
set_option maxRecDepth 100000 in
theorem quota_open {fuel : Nat} {cs : List Value} {z : DataW H × List MemPlace} (h : DataW.trod enc Try.prog w 0 spare held fuel 23 cs = some z) : ∃ a b c : Int, cs = [.int .i64 a, .int .i64 b, .int .i64 c] := by
  have k_int : Try.prog.cellsOf 2 = 1 := by kernel_rfl
  have k_r : Try.prog.cellsOf 23 = 3 := by kernel_rfl
  obtain ⟨xs, n, _, _, hcl, hlen, hall⟩ := DataW.trod_struct Try.underlying23 h
  rw [k_r] at hcl
  clear h
  obtain ⟨v0, v1, v2, rfl⟩ := list3 hcl
  obtain ⟨y0, y1, y2, rfl⟩ := list3 hlen
  have h0 := hall 0 _ rfl
  have h1 := hall 1 _ rfl
  have h2 := hall 2 _ rfl
  clear hall
  simp [k_int] at h0 h1 h2
  obtain ⟨n0, e0, _, w0⟩ := DataW.trod_int Try.underlying2 h0
  injection e0 with e0
  subst e0
  obtain ⟨n1, e1, _, w1⟩ := DataW.trod_int Try.underlying2 h1
  injection e1 with e1
  subst e1
  obtain ⟨n2, e2, _, w2⟩ := DataW.trod_int Try.underlying2 h2
  injection e2 with e2
  subst e2
  exact ⟨n0, n1, n2, rfl⟩
theorem list_two {α : Type} {l : List α} {n : Nat} (h : l.length = n + 2) : ∃ a b r, l = a :: b :: r ∧ r.length = n := by
  rcases l with _ | ⟨a, _ | ⟨b, r⟩⟩ <;> simp at h
  exact ⟨a, b, r, rfl, h⟩
set_option maxRecDepth 100000 in
theorem deed_read {fuel : Nat} {cs : List Value} {z : DataW H × List MemPlace} (h : DataW.trod enc Try.prog w 0 spare held fuel 37 cs = some z) : ∃ x : Deed, cs = dcells x ∧ OkD x := by
  have k_b : Try.prog.cellsOf 4 = 1 := by kernel_rfl
  have k_u : Try.prog.cellsOf 31 = 1 := by kernel_rfl
  have k_e : Try.prog.cellsOf 33 = 14 := by kernel_rfl
  have k_s : Try.prog.cellsOf 35 = 3 := by kernel_rfl
  have k_r : Try.prog.cellsOf 37 = 19 := by kernel_rfl
  obtain ⟨xs, n, _, _, hcl, hlen, hall⟩ := DataW.trod_struct Try.underlying37 h
  rw [k_r] at hcl
  clear h
  obtain ⟨v0, v1, r0, rfl, hr0⟩ := list_two hcl
  match xs, hlen with
  | [y0, y1, y2, y3], _ =>
    have h0 := hall 0 _ rfl
    have h1 := hall 1 _ rfl
    have h2 := hall 2 _ rfl
    have h3 := hall 3 _ rfl
    clear hall
    simp [k_b, k_e, k_u, k_s] at h0 h1 h2 h3
    obtain ⟨b, e0, _⟩ := DataW.trod_bool Try.underlying4 h0
    injection e0 with e0
    subst e0
    obtain ⟨n1, e1, _, w1⟩ := DataW.trod_int Try.underlying31 h1
    injection e1 with e1
    subst e1
    obtain ⟨n1, rfl, g1⟩ := Rec.wfu64 w1
    obtain ⟨r, e2, hir⟩ := Rec.rec_read h2
    have hd : (r0.drop 14).length = 3 := by rw [List.length_drop]; omega
    rw [List.take_of_length_le (by omega)] at h3
    obtain ⟨p, e3, hip⟩ := spot_read h3
    refine ⟨⟨b, n1, r, p⟩, ?_, ⟨g1, hir, hip⟩⟩
    show Value.bool b :: Value.int .u64 (n1 : Int) :: r0 = _
    rw [← List.take_append_drop 14 r0, e2, e3]
    rfl
set_option maxRecDepth 100000 in
theorem deeds_read {fuel : Nat} {v : Value} {y : DataW H × List MemPlace} (h : DataW.trod enc Try.prog w 0 (fun _ => true) true fuel 24 [v] = some y) :
    ∃ (a : Option Addr) (l : List Deed) (cap : Nat), v = .slice a l.length cap ∧ Deeds w a l ∧ l.length ≤ cap ∧ cap ≤ maxLen := by
  have hsz : Try.prog.cellsOf 37 = 19 := by kernel_rfl
  rcases open_slice Try.underlying24 h with ⟨hcs, _⟩ | ⟨x, len, c, m, n0, D, Pl, hcs, _, hl, hm, hmm, _, hi⟩
  · injection hcs with hv _
    exact ⟨none, [], 0, hv, ⟨fun _ h => by (simp at h), fun h => by (simp at h)⟩, Nat.le_refl _, Nat.zero_le _⟩
  · injection hcs with hv _
    have hmm' : m = c := by simpa using hmm
    have hall : ∀ i, ∃ r : Deed, i < len → (OkD r ∧ ∀ j u, (dcells r)[j]? = some u → w.cell? ((x.add (i * 19)).add j) = some u) := by
      intro i
      by_cases hil : i < len
      · obtain ⟨cs, hc, hr⟩ := hi i (by omega)
        rw [hsz] at hc
        obtain ⟨r, rfl, hir⟩ := deed_read hr
        obtain ⟨_, hsize, hcells⟩ := World.cells?_some hc
        refine ⟨r, fun _ => ⟨hir, fun j u hu => ?_⟩⟩
        have hj : j < 19 := by rw [← dcells_length r]; exact (List.getElem?_eq_some_iff.1 hu).1
        rw [hcells j hj]
        simpa using hu
      · exact ⟨⟨false, 0, Rec.zero, (0, 0, 0)⟩, fun h => absurd h hil⟩
    obtain ⟨f, hf⟩ := Classical.skolem.1 hall
    have hlen : ((List.range len).map f).length = len := by simp
    refine ⟨some x, (List.range len).map f, c, by rw [hlen]; exact hv, ⟨fun r hr => ?_, fun hn => ?_⟩, by rw [hlen]; exact hl, hm⟩
    · obtain ⟨i, hir, rfl⟩ := List.mem_map.1 hr
      exact (hf i (List.mem_range.1 hir)).1
    · rw [hlen] at hn
      obtain ⟨b, off, spot⟩ := x
      have h0 := (hf 0 hn).2 0 _ rfl
      have hspot : spot = none := by simpa [Addr.add] using World.cell?_spot h0
      subst hspot
      refine ⟨b, off, rfl, block_lt_of_cell (a := ⟨b, off, none⟩) (by simpa [Addr.add] using h0), fun i hil j u hu => ?_⟩
      rw [hlen] at hil
      have h1 := (hf i hil).2 j u (by simpa using hu)
      rw [add_none, add_none] at h1
      exact h1
end
theorem Deeds.get {W wr : World} {a : Option Addr} {l : List Deed} (h : Deeds W a l) (hb : But (fun _ => False) W wr) {i : Nat} (hi : i < l.length) : ∃ g o, a = some ⟨g, o, none⟩ ∧
    wr.cell? ⟨g, o + i * 19, none⟩ = some (.bool l[i].tick) ∧ wr.cell? ⟨g, o + i * 19 + 1, none⟩ = some (.int .u64 (l[i].now : Int)) ∧ wr.rangeAt g (o + i * 19 + 2) (rcs l[i].r) ∧ wr.rangeAt g (o + i * 19 + 16) [.int .i64 l[i].p.1, .int .i64 l[i].p.2.1, .int .i64 l[i].p.2.2] := by
  obtain ⟨g, o, ha, hg, hc⟩ := h.at_ (by omega)
  have h0 : ∀ j u, (dcells l[i])[j]? = some u → wr.cell? ⟨g, o + i * 19 + j, none⟩ = some u := fun j u hu => by
    rw [hb.cell (p := ⟨g, o + i * 19 + j, none⟩) hg (fun h => h)]
    exact hc i hi j u hu
  refine ⟨g, o, ha, h0 0 _ rfl, h0 1 _ rfl, fun j v hv => ?_, fun j v hv => ?_⟩
  · have hj := (List.getElem?_eq_some_iff.1 hv).1
    have := h0 (2 + j) v (by
      show (dcells l[i])[2 + j]? = some v
      rw [show dcells l[i] = [Value.bool l[i].tick, .int .u64 (l[i].now : Int)] ++ (rcs l[i].r ++ [.int .i64 l[i].p.1, .int .i64 l[i].p.2.1, .int .i64 l[i].p.2.2]) from rfl, List.getElem?_append_right (by simp), List.getElem?_append_left (by simpa using hj)]
      simpa using hv)
    rw [← Nat.add_assoc] at this
    exact this
  · have hj := (List.getElem?_eq_some_iff.1 hv).1
    have := h0 (16 + j) v (by
      show (dcells l[i])[16 + j]? = some v
      rw [show dcells l[i] = ([Value.bool l[i].tick, .int .u64 (l[i].now : Int)] ++ rcs l[i].r) ++ [.int .i64 l[i].p.1, .int .i64 l[i].p.2.1, .int .i64 l[i].p.2.2] from rfl, List.getElem?_append_right (by simp [rcs])]
      simpa [rcs] using hv)
    rw [← Nat.add_assoc] at this
    exact this
end Go.Proofs.Ytgjofinbdigmcaa.Buk
