/- Two entries' values are one just if the entries are; a map of entries by their keys; deeds that came in. -/
import Derived.Test.YtabclecfamkanaaDoorKeyUp
import Derived.Laws.StructEq
import Derived.Maps.OwnSet
import Derived.Deep.Slices
import Derived.Deep.Fields
import Derived.ChangeSame
import Derived.OpenShut
import Derived.ShutString
namespace Go.Proofs.YtabclecfamkanaaDoor.Key
open Go.Proofs.YtabclecfamkanaaDoor.Mem Go.Proofs.YtabclecfamkanaaDoor.Fnv
open Go.Deep Go.ChangeShapes Go.WideShapes Go.ChangeAt Go.RowKit
set_option linter.unusedVariables false
set_option linter.unusedSimpArgs false
section
variable {P : Program} {d : Nat} {xs ys : Array Value} {f : Field} {fs : List Field} {w : World}
theorem eq_end : (Op.eqFields d xs ys []).run P w = .ok true w := by simp [Op.eqFields]
theorem eq_field {u v : Value} {c r : Bool} (hn : f.name ≠ "_") (h1 : (Go.part f.type xs f.offset).run P w = .ok u w) (h2 : (Go.part f.type ys f.offset).run P w = .ok v w) (h3 : (Op.equalIn d f.type u v).run P w = .ok c w) (h4 : (Op.eqFields d xs ys fs).run P w = .ok r w) :
    (Op.eqFields d xs ys (f :: fs)).run P w = .ok (c && r) w := by
  rw [Op.eqFields, if_pos hn]
  simp only [Sem.run_bind, h1, h2, h3, Result.andThen_ok, Sem.run_ite]
  cases c
  · simp
  · simpa using h4
theorem part_one {t : TypeId} {cs : Array Value} {off : Nat} {u : Value} (ha : (isAgg t).run P w = .ok false w) (h : cs[off]? = some u) : (Go.part t cs off).run P w = .ok u w := by
  unfold Go.part
  simp [ha, h]
theorem part_agg {t : TypeId} {cs : Array Value} {off n : Nat} (ha : (isAgg t).run P w = .ok true w) (hs : (sizeOf t).run P w = .ok n w) : (Go.part t cs off).run P w = .ok (.agg (cs.extract off (off + n))) w := by
  unfold Go.part
  simp [ha, hs]
end
theorem agg_plain (w : World) : (isAgg 3).run Tryd.prog w = .ok false w ∧ (isAgg 30).run Tryd.prog w = .ok false w ∧ (isAgg 9).run Tryd.prog w = .ok false w := by
  refine ⟨?_, ?_, ?_⟩
  · simp [isAgg, run_underlying Tryd.underlying3]
  · simp [isAgg, run_underlying Tryd.underlying30]
  · simp [isAgg, run_underlying Tryd.underlying9]
theorem spot_deep (d : Nat) (a b c x y z : Int) (w : World) : (Op.equalIn (d + 1 + 1) 29 (.agg #[.int .i64 a, .int .i64 b, .int .i64 c]) (.agg #[.int .i64 x, .int .i64 y, .int .i64 z])).run Tryd.prog w = .ok (a == x && (b == y && (c == z && true))) w := by
  have h2 : Tryd.prog.stoodInHeld 29 = false := by kernel_rfl
  obtain ⟨ki, _, _⟩ := agg_plain w
  rw [run_equalIn_struct _ _ _ _ _ (by kernel_rfl) h2]
  obtain ⟨fs, hfs⟩ : ∃ fs, (Tryd.prog.fieldsOf 29).toList = fs := ⟨_, rfl⟩
  rw [hfs]
  simp [Program.fieldsOf, Tryd.underlying29] at hfs
  subst hfs
  refine eq_field (by decide) (part_one ki rfl) (part_one ki rfl) (run_equalIn_int _ _ _ _ _ _ _ Tryd.underlying3) ?_
  refine eq_field (by decide) (part_one ki rfl) (part_one ki rfl) (run_equalIn_int _ _ _ _ _ _ _ Tryd.underlying3) ?_
  exact eq_field (by decide) (part_one ki rfl) (part_one ki rfl) (run_equalIn_int _ _ _ _ _ _ _ Tryd.underlying3) eq_end
theorem ent_key (a b : Ent) : decide (a = b) = (a.key.toList == b.key.toList && ((a.seg == b.seg && (a.at_ == b.at_ && (a.len == b.len && true))) && (((a.ver : Int) == (b.ver : Int)) && (((a.exp : Int) == (b.exp : Int)) && (a.size == b.size && true))))) := by
  obtain ⟨⟩ := a
  obtain ⟨⟩ := b
  rw [str_beq, Bool.eq_iff_iff]
  simp [Int.natCast_inj, and_assoc]
theorem ent_equal (a b : Ent) (w : World) : (Op.equal 32 (ev a) (ev b)).run Tryd.prog w = .ok (decide (a = b)) w := by
  have h1 : Tryd.prog.stoodInHeld 32 = false := by kernel_rfl
  obtain ⟨k0, k3, k4⟩ := agg_plain w
  unfold Op.equal ev
  rw [show Op.maxDepth = 9997 + 1 + 1 + 1 from rfl, run_equalIn_struct _ _ _ _ _ (by kernel_rfl) h1]
  obtain ⟨fs, hfs⟩ : ∃ fs, (Tryd.prog.fieldsOf 32).toList = fs := ⟨_, rfl⟩
  rw [hfs]
  simp [Program.fieldsOf, Tryd.underlying32] at hfs
  subst hfs
  rw [ent_key]
  refine eq_field (by decide) (part_one k4 rfl) (part_one k4 rfl) (run_equalIn_string _ _ _ _ _ Tryd.underlying9) ?_
  refine eq_field (by decide) (part_agg (Tryd.isAgg29 w) (Tryd.sizeOf29 w)) (part_agg (Tryd.isAgg29 w) (Tryd.sizeOf29 w)) (spot_deep 9997 _ _ _ _ _ _ w) ?_
  refine eq_field (by decide) (part_one k3 rfl) (part_one k3 rfl) (run_equalIn_int _ _ _ _ _ _ _ Tryd.underlying30) ?_
  refine eq_field (by decide) (part_one k3 rfl) (part_one k3 rfl) (run_equalIn_int _ _ _ _ _ _ _ Tryd.underlying30) ?_
  exact eq_field (by decide) (part_one k0 rfl) (part_one k0 rfl) (run_equalIn_int _ _ _ _ _ _ _ Tryd.underlying3) eq_end
theorem ent_neq (a b : Ent) (w : World) : (binOp .neq 32 (ev a) (ev b)).run Tryd.prog w = .ok (.bool (!decide (a = b))) w := by
  have h := ent_equal a b w
  unfold ev at h ⊢
  simp [binOp, h]
/- A map of entries. -/
theorem ev_inj {a b : Ent} (h : ev a = ev b) : a = b := by
  obtain ⟨⟩ := a
  obtain ⟨⟩ := b
  simp [ev, ecells] at h
  obtain ⟨rfl, rfl, rfl, rfl, h5, h6, rfl⟩ := h
  simp
  omega
open Classical in
noncomputable def entElem (v : Value) : Option (DataW Ent × List MemPlace) := if h : ∃ e, v = ev e then some (.held h.choose, []) else none
theorem entElem_ev (e : Ent) : entElem (ev e) = some (.held e, []) := by
  have h : ∃ x, ev e = ev x := ⟨e, rfl⟩
  unfold entElem
  rw [dif_pos h]
  have := ev_inj h.choose_spec
  rw [← this]
theorem entElem_inv {v : Value} {z : DataW Ent × List MemPlace} (h : entElem v = some z) : ∃ e, v = ev e ∧ z = (.held e, []) := by
  unfold entElem at h
  split at h
  · rename_i hx
    injection h with h
    exact ⟨hx.choose, hx.choose_spec, h.symm⟩
  · cases h
theorem law : Maps.Keyed Tryd.prog 9 := Maps.string_keyed Tryd.underlying9
structure Tells (D : DataW Ent) (T : Tab) : Prop where
  has : ∀ s : ByteArray, Maps.has D (.string s.data.toList) = (ask T s).isSome
  key : ∀ s e, ask T s = some e → ∀ z, D.atKey (.string s.data.toList) z = .held e
  size : Maps.size D = cnt T
theorem bytes_ne {a b : ByteArray} (h : a ≠ b) : (Lit.string a.data.toList) ≠ .string b.data.toList := by
  intro he
  injection he with he
  apply h
  obtain ⟨⟨x⟩⟩ := a
  obtain ⟨⟨y⟩⟩ := b
  simpa using he
theorem tells_new : Tells (.map []) (List.replicate 8 none) where
  has s := by rw [show ask (List.replicate 8 none) s = none from by unfold ask; rw [look_new]]; rfl
  key s e h := by rw [show ask (List.replicate 8 none) s = none from by unfold ask; rw [look_new]] at h; cases h
  size := by rw [cnt_new]; rfl
theorem Tells.put {D : DataW Ent} {T : Tab} {i : Nat} (h : Tells D T) (hm : Maps.IsMap D) (ht : Maps.Tidy D) (hg : Good T i) (e : Ent) : Tells (D.put (.string e.key.data.toList) (.held e)) (Key.put T e) where
  has s := by
    rw [ask_put hg]
    by_cases hs : s = e.key
    · rw [if_pos hs, hs, Maps.has_put_same (k := .string e.key.data.toList) hm trivial]; rfl
    · rw [if_neg hs, Maps.has_put_other (bytes_ne hs), h.has]
  key s f hf z := by
    rw [ask_put hg] at hf
    by_cases hs : s = e.key
    · rw [if_pos hs] at hf
      injection hf with hf
      rw [hs, Maps.atKey_put_same (k := .string e.key.data.toList) hm trivial, hf]
    · rw [if_neg hs] at hf
      rw [Maps.atKey_put_other (bytes_ne hs), h.key s f hf]
  size := by
    rw [Maps.size_put ht, h.has, h.size, cnt_put hg]
    split <;> simp
theorem Tells.del {D : DataW Ent} {T : Tab} {i : Nat} (h : Tells D T) (ht : Maps.Tidy D) (hg : Good T i) (s : ByteArray) : Tells (D.del (.string s.data.toList)) (Key.del T s) where
  has x := by
    rw [ask_del hg]
    by_cases hs : x = s
    · rw [if_pos hs, hs, Maps.has_del_same]; rfl
    · rw [if_neg hs, Maps.has_del_other (bytes_ne hs), h.has]
  key x f hf z := by
    rw [ask_del hg] at hf
    by_cases hs : x = s
    · rw [if_pos hs] at hf; cases hf
    · rw [if_neg hs] at hf
      rw [Maps.atKey_del_other (bytes_ne hs), h.key x f hf]
  size := by
    have h1 := Maps.size_del (k := .string s.data.toList) ht
    have h2 := cnt_del hg s
    rw [h.has, h.size] at h1
    omega
theorem zeroE (w : World) : (zeroValue 32).run Tryd.prog w = .ok (ev zero) w := by kernel_rfl
set_option maxRecDepth 100000 in
theorem look_any {w : World} {mb n : Nat} {D : DataW Ent} {T : Tab} (hm : w.ownsMap Tryd.prog 9 entElem mb n D) (ht : Tells D T) (s : ByteArray) (hs : s.size ≤ maxLen) (o : Option Ent) (ho : ask T s = o) :
    (Instr.lookup 54 (.map (some mb)) (.string s) true).run Tryd.prog w = .ok (.tuple #[.agg (ecells (ent o)).toArray, .bool o.isSome]) w := by
  obtain ⟨v, ps, hrun, hv⟩ := hm.look_ok law Tryd.underlying54 (zeroE w) (entElem_ev zero) (WideMaps.keyOf_string_mk Tryd.underlying9 hs)
  obtain ⟨e, rfl, he⟩ := entElem_inv hv
  rw [ht.has, ho] at hrun
  rw [hrun]
  simp only [Prod.mk.injEq] at he
  cases o with
  | none =>
    rw [Maps.atKey_of_not_has (by rw [ht.has, ho]; rfl)] at he
    have h1 := he.1
    injection h1 with h1
    rw [← h1]; rfl
  | some f =>
    rw [ht.key s f ho] at he
    have h1 := he.1
    injection h1 with h1
    rw [← h1]; rfl
/- Deeds that came in. -/
structure Deed where
  d : Bool
  e : Ent
def dcells (x : Deed) : List Value := .bool x.d :: ecells x.e
theorem dcells_length (x : Deed) : (dcells x).length = 8 := rfl
structure Deeds (w : World) (a : Option Addr) (l : List Deed) : Prop where
  is_ : ∀ x ∈ l, Is x.e
  at_ : 0 < l.length → ∃ g o, a = some ⟨g, o, none⟩ ∧ g < w.heap.size ∧ ∀ i (h : i < l.length), ∀ j u, (dcells l[i])[j]? = some u → w.cell? ⟨g, o + i * 8 + j, none⟩ = some u
theorem wf64 {n : Int} (h : (Lit.int .i64 n).wf = true) : -9223372036854775808 ≤ n ∧ n ≤ 9223372036854775807 := by
  simpa [Lit.wf, IntKind.min, IntKind.max, IntKind.signed, IntKind.bits] using h
theorem wfu64 {n : Int} (h : (Lit.int .u64 n).wf = true) : ∃ k : Nat, n = (k : Int) ∧ k < 18446744073709551616 := by
  have : 0 ≤ n ∧ n ≤ 18446744073709551615 := by simpa [Lit.wf, IntKind.min, IntKind.max, IntKind.signed, IntKind.bits] using h
  exact ⟨n.toNat, by omega, by omega⟩
theorem list_succ {α : Type} {l : List α} {n : Nat} (h : l.length = n + 1) : ∃ a r, l = a :: r ∧ r.length = n := by
  cases l with
  | nil => cases h
  | cons a r => exact ⟨a, r, rfl, by simpa using h⟩
theorem list7 {α : Type} {l : List α} (h : l.length = 7) : ∃ y0 y1 y2 y3 y4 y5 y6, l = [y0, y1, y2, y3, y4, y5, y6] := by
  obtain ⟨y0, r0, rfl, h0⟩ := list_succ h
  obtain ⟨y1, r1, rfl, h1⟩ := list_succ h0
  obtain ⟨y2, r2, rfl, h2⟩ := list_succ h1
  obtain ⟨y3, r3, rfl, h3⟩ := list_succ h2
  obtain ⟨y4, r4, rfl, h4⟩ := list_succ h3
  obtain ⟨y5, r5, rfl, h5⟩ := list_succ h4
  obtain ⟨y6, r6, rfl, h6⟩ := list_succ h5
  obtain rfl := List.eq_nil_of_length_eq_zero h6
  exact ⟨y0, y1, y2, y3, y4, y5, y6, rfl⟩
section
variable {H : Type} {enc : TypeId × Value → H} {w : World} {spare : Nat → Bool} {held : Bool}
set_option maxRecDepth 100000 in
theorem spot_read {fuel : Nat} {v0 v1 v2 : Value} {z : DataW H × List MemPlace} (h : DataW.trod enc Tryd.prog w 0 spare held fuel 29 [v0, v1, v2] = some z) : ∃ a b c : Int, (v0 = .int .i64 a ∧ v1 = .int .i64 b ∧ v2 = .int .i64 c) ∧ (-9223372036854775808 ≤ a ∧ a ≤ 9223372036854775807) ∧ (-9223372036854775808 ≤ b ∧ b ≤ 9223372036854775807) ∧ (-9223372036854775808 ≤ c ∧ c ≤ 9223372036854775807) := by
  have k2 : Tryd.prog.cellsOf 3 = 1 := by kernel_rfl
  obtain ⟨xs, n, _, _, _, hlen, hall⟩ := DataW.trod_struct Tryd.underlying29 h
  match xs, hlen with
  | [y0, y1, y2], _ =>
    have h0 := hall 0 _ rfl
    have h1 := hall 1 _ rfl
    have h2 := hall 2 _ rfl
    simp [k2] at h0 h1 h2
    obtain ⟨a, e0, _, w0⟩ := DataW.trod_int Tryd.underlying3 h0
    obtain ⟨b, e1, _, w1⟩ := DataW.trod_int Tryd.underlying3 h1
    obtain ⟨c, e2, _, w2⟩ := DataW.trod_int Tryd.underlying3 h2
    injection e0 with e0
    injection e1 with e1
    injection e2 with e2
    exact ⟨a, b, c, ⟨e0, e1, e2⟩, wf64 w0, wf64 w1, wf64 w2⟩
set_option maxRecDepth 100000 in
theorem ent_read {fuel : Nat} {cs : List Value} {z : DataW H × List MemPlace} (h : DataW.trod enc Tryd.prog w 0 spare held fuel 32 cs = some z) : ∃ r : Ent, cs = ecells r ∧ Is r := by
  have k_int : Tryd.prog.cellsOf 3 = 1 := by kernel_rfl
  have k_uint64 : Tryd.prog.cellsOf 30 = 1 := by kernel_rfl
  have k_string : Tryd.prog.cellsOf 9 = 1 := by kernel_rfl
  have k_s : Tryd.prog.cellsOf 29 = 3 := by kernel_rfl
  have k_r : Tryd.prog.cellsOf 32 = 7 := by kernel_rfl
  obtain ⟨xs, n, _, _, hcl, hlen, hall⟩ := DataW.trod_struct Tryd.underlying32 h
  rw [k_r] at hcl
  clear h
  obtain ⟨v0, v1, v2, v3, v4, v5, v6, rfl⟩ := list7 hcl
  match xs, hlen with
  | [y0, y1, y2, y3, y4], _ =>
    have h0 := hall 0 _ rfl
    have h1 := hall 1 _ rfl
    have h2 := hall 2 _ rfl
    have h3 := hall 3 _ rfl
    have h4 := hall 4 _ rfl
    clear hall
    simp [k_int, k_uint64, k_string, k_s] at h0 h1 h2 h3 h4
    obtain ⟨s, e0, _, w0⟩ := DataW.trod_string Tryd.underlying9 h0
    injection e0 with e0
    subst e0
    obtain ⟨a, b, c, ⟨rfl, rfl, rfl⟩, ga, gb, gc⟩ := spot_read h1
    obtain ⟨n2, e2, _, w2⟩ := DataW.trod_int Tryd.underlying30 h2
    injection e2 with e2
    subst e2
    obtain ⟨n2, rfl, g2⟩ := wfu64 w2
    obtain ⟨n3, e3, _, w3⟩ := DataW.trod_int Tryd.underlying30 h3
    injection e3 with e3
    subst e3
    obtain ⟨n3, rfl, g3⟩ := wfu64 w3
    obtain ⟨n4, e4, _, w4⟩ := DataW.trod_int Tryd.underlying3 h4
    injection e4 with e4
    subst e4
    have g4 := wf64 w4
    have hmx : maxLen = 9223372036854775807 := rfl
    rw [hmx] at w0
    exact ⟨⟨s, a, b, c, n2, n3, n4⟩, rfl, ⟨w0, ga, gb, gc, g2, g3, g4⟩⟩
set_option maxRecDepth 100000 in
theorem deed_read {fuel : Nat} {cs : List Value} {z : DataW H × List MemPlace} (h : DataW.trod enc Tryd.prog w 0 spare held fuel 34 cs = some z) : ∃ r : Deed, cs = dcells r ∧ Is r.e := by
  have k_b : Tryd.prog.cellsOf 4 = 1 := by kernel_rfl
  have k_e : Tryd.prog.cellsOf 32 = 7 := by kernel_rfl
  have k_r : Tryd.prog.cellsOf 34 = 8 := by kernel_rfl
  obtain ⟨xs, n, _, _, hcl, hlen, hall⟩ := DataW.trod_struct Tryd.underlying34 h
  rw [k_r] at hcl
  clear h
  obtain ⟨v0, r0, rfl, hr0⟩ := list_succ hcl
  match xs, hlen with
  | [y0, y1], _ =>
    have h0 := hall 0 _ rfl
    have h1 := hall 1 _ rfl
    clear hall
    simp [k_b, k_e] at h0 h1
    obtain ⟨b, e0, _⟩ := DataW.trod_bool Tryd.underlying4 h0
    injection e0 with e0
    subst e0
    rw [List.take_of_length_le (by omega)] at h1
    obtain ⟨e, rfl, hi⟩ := ent_read h1
    exact ⟨⟨b, e⟩, rfl, hi⟩
set_option maxRecDepth 100000 in
theorem deeds_read {fuel : Nat} {v : Value} {y : DataW H × List MemPlace} (h : DataW.trod enc Tryd.prog w 0 (fun _ => true) true fuel 22 [v] = some y) :
    ∃ (a : Option Addr) (l : List Deed) (cap : Nat), v = .slice a l.length cap ∧ Deeds w a l ∧ l.length ≤ cap ∧ cap ≤ maxLen := by
  have hsz : Tryd.prog.cellsOf 34 = 8 := by kernel_rfl
  rcases open_slice Tryd.underlying22 h with ⟨hcs, _⟩ | ⟨x, len, c, m, n0, D, Pl, hcs, _, hl, hm, hmm, _, hi⟩
  · injection hcs with hv _
    exact ⟨none, [], 0, hv, ⟨fun _ h => by (simp at h), fun h => by (simp at h)⟩, Nat.le_refl _, Nat.zero_le _⟩
  · injection hcs with hv _
    have hmm' : m = c := by simpa using hmm
    have hall : ∀ i, ∃ r : Deed, i < len → (Is r.e ∧ ∀ j u, (dcells r)[j]? = some u → w.cell? ((x.add (i * 8)).add j) = some u) := by
      intro i
      by_cases hil : i < len
      · obtain ⟨cs, hc, hr⟩ := hi i (by omega)
        rw [hsz] at hc
        obtain ⟨r, rfl, hir⟩ := deed_read hr
        obtain ⟨_, hsize, hcells⟩ := World.cells?_some hc
        refine ⟨r, fun _ => ⟨hir, fun j u hu => ?_⟩⟩
        have hj : j < 8 := by rw [← dcells_length r]; exact (List.getElem?_eq_some_iff.1 hu).1
        rw [hcells j hj]
        simpa using hu
      · exact ⟨⟨false, zero⟩, fun h => absurd h hil⟩
    obtain ⟨f, hf⟩ := Classical.skolem.1 hall
    have hlen : ((List.range len).map f).length = len := by simp
    refine ⟨some x, (List.range len).map f, c, by rw [hlen]; exact hv, ⟨fun r hr => ?_, fun hn => ?_⟩, by rw [hlen]; exact hl, hm⟩
    · obtain ⟨i, hir, rfl⟩ := List.mem_map.1 hr
      exact (hf i (List.mem_range.1 hir)).1
    · rw [hlen] at hn
      obtain ⟨b, off, spot⟩ := x
      have h0 := (hf 0 hn).2 0 _ rfl
      have hspot : spot = none := by simpa [Addr.add] using World.cell?_spot h0
      subst hspot
      refine ⟨b, off, rfl, block_lt_of_cell (a := ⟨b, off, none⟩) (by simpa [Addr.add] using h0), fun i hil j u hu => ?_⟩
      rw [hlen] at hil
      have h1 := (hf i hil).2 j u (by simpa using hu)
      rw [add_none, add_none] at h1
      exact h1
end
end Go.Proofs.YtabclecfamkanaaDoor.Key
