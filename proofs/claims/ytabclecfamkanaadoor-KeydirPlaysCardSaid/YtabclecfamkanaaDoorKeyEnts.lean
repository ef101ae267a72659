/- Contract of the program's Entries. -/
import Derived.Test.YtabclecfamkanaaDoorKeySort
import Derived.Test.YtabclecfamkanaaDoorKeyPlaces
namespace Go.Proofs.YtabclecfamkanaaDoor.Key
open Go.Proofs.YtabclecfamkanaaDoor.Mem Go.Proofs.YtabclecfamkanaaDoor.Fnv
open Go.ChangeShapes Go.WideShapes Go.ChangeAt Go.RowKit
set_option linter.unusedVariables false
set_option linter.unusedSimpArgs false
def ents (T : Tab) (k : Nat) : List Ent := (T.take k).filterMap id
theorem ents_none {T : Tab} {k : Nat} (h : k < T.length) (he : look T k = none) : ents T (k + 1) = ents T k := by
  unfold ents
  rw [take_look h, List.filterMap_append, he]
  simp
theorem ents_some {T : Tab} {k : Nat} {e : Ent} (h : k < T.length) (he : look T k = some e) : ents T (k + 1) = ents T k ++ [e] := by
  unfold ents
  rw [take_look h, List.filterMap_append, he]
  simp
theorem ents_length (T : Tab) : (ents T T.length).length = cnt T := by
  unfold ents cnt
  rw [List.take_of_length_le (Nat.le_refl _)]
  induction T with
  | nil => rfl
  | cons o T ih => cases o <;> simp [List.filterMap_cons, List.countP_cons, ih]
theorem ents_le (T : Tab) (k : Nat) : (ents T k).length ≤ k := by
  unfold ents
  have h1 := List.length_filterMap_le id (T.take k)
  have h2 := List.length_take_le k T
  omega
theorem mem_ents {T : Tab} {e : Ent} : e ∈ ents T T.length ↔ some e ∈ T := by
  unfold ents
  rw [List.take_of_length_le (Nat.le_refl _)]
  simp [List.mem_filterMap]
theorem entry_info : (Tryd.prog.info? 32).map (fun i => (i.zero, i.size, i.bytes)) = some (some (.agg (ecells zero).toArray), 7, 64) := by kernel_rfl
theorem sees_ent (w : World) (e : Ent) (t : TypeId) (fr : Nat × Nat) (g : Nat) (hg : g = w.heap.size) : Sees (w.alloc (.cells (ecells e).toArray t fr)) 7 (.slice (some ⟨g, 0, none⟩) 1 1) 1 (ecells e) := by
  subst hg
  refine .inr ⟨_, _, rfl, by simp [ecells_length], fun j x hx => ?_⟩
  refine ⟨by simp, ?_⟩
  rw [add_none, Nat.zero_add, World.cell?_alloc_mark]
  simpa using hx
section
variable {w : World} {p g i kn n : Nat} {T : Tab}
set_option maxRecDepth 100000 in
set_option maxHeartbeats 2000000 in
theorem kents_any (h : KAt w p g T i (cnt T)) :
    Calls Tryd.prog 20 #[.pointer (some ⟨p, 0, none⟩)] w fun e w' => ∃ a cap L, e = .returned (.slice a L.length cap) ∧ L.Perm (ents T T.length) ∧ rises L ∧ Ents w' a L ∧ But (fun _ => False) w w' := by
  obtain ⟨l1, l2⟩ := h.lt
  have c0 : w.cell? ⟨p, 0, none⟩ = some (.slice (some ⟨g, 0, none⟩) T.length T.length) := h.blk.cell 0
  have c1 : w.cell? ⟨p, 1, none⟩ = some (.int .i64 (cnt T : Int)) := h.blk.cell 1
  have HK := Lib.hid h
  have hc := cnt_le T
  obtain ⟨i0, hi0, hz⟩ := Option.map_eq_some_iff.1 entry_info
  simp only [Prod.mk.injEq] at hz
  obtain ⟨hz0, hz1, hz2⟩ := hz
  obtain ⟨n, hn⟩ : ∃ n, n = T.length := ⟨_, rfl⟩
  have HN := Lib.hid hn
  obtain ⟨m, hm⟩ : ∃ m, m = cnt T := ⟨_, rfl⟩
  rw [← hn] at c0 l1 l2 hc
  rw [← hm] at c1 hc
  have HCK := Lib.hid (fun w1 (hg : w.grownBy w1 none) => show w1.cell? ⟨p, 0, none⟩ = some (.slice (some ⟨g, 0, none⟩) n n) from by
    rw [← c0]
    exact (But.of_grown hg).cell h.blk.lt (fun h => by cases h))
  clear h hn hm
  go_enter Tryd.func20, Tryd.ntmps20
  go_wp2_with (at_make; refine wpList_make_own _ rfl _ _ 51 rfl w.heap.size 32 i0 _ 7 Tryd.underlying51 hi0 hz0 hz1 .i64 .i64 (m : Int) m rfl rfl (by omega) (by rw [hz2]; omega) (by unfold maxLen; omega) (Nat.le_refl _) ?_; intro w1 ho1 hg1; have k0 := HCK.out w1 hg1; clear c0 c1)
  have HO1 := Lib.hid ho1
  have HB1 := Lib.hid (show But (fun _ => False) w w1 from (But.of_grown hg1).mono (fun j hj h => by cases h))
  clear ho1 hg1 k0
  go_loopw [3, 16] (fun v x wr => ∃ k g c : Nat, k ≤ n ∧ x = .int .i64 (k : Int) ∧ v = .slice (some ⟨g, 0, none⟩) (ents T k).length c ∧ wr.ownsRow w.heap.size 32 7 v (ents T k).length (ecl (ents T k)) ∧ But (fun _ => False) w wr) (fun _ x _ => n - (intOf x).toNat)
  case atStart => exact ⟨0, _, _, by omega, rfl, rfl, HO1.out, HB1.out⟩
  case round =>
    obtain ⟨k, r, c, hk, rfl, rfl, hO, hB⟩ := hrel
    have hnn := HN.out
    have HO := Lib.hid hO
    have HB := Lib.hid hB
    have hel := ents_le T k
    by_cases hlt : k < n
    · have hkl : k < T.length := by omega
      have hR := row_range (HK.out.but hB (fun h => h) (fun h => h)).row hkl
      have HSN := Lib.hid (fun h => ents_none (T := T) hkl h)
      have HSS := Lib.hid (fun e h => ents_some (T := T) (e := e) hkl h)
      obtain ⟨q, hq⟩ : ∃ q, q = look T k := ⟨_, rfl⟩
      rw [← hq] at hR HSN HSS
      have HR := Lib.hid hR
      have HX := Lib.hid (show Blk (wr.alloc (.cells (pcells none).toArray 59)) wr.heap.size 59 (pcells none).toArray from Blk.new _ _ _)
      have HX0 := Lib.hid (blk_set0 (vs := pcells q) HX.out (by rw [pcells_length, pcells_length]))
      have hbb : But (fun k => k = wr.heap.size) wr ((wr.alloc (.cells (pcells none).toArray 59)).setCells wr.heap.size 0 (pcells q)) := ((But.refl (fun k => k = wr.heap.size) wr).alloc _).trans' (but_setCells _ _ _ _)
      have HO2 := Lib.hid (ownsRow_but hO hbb (fun j hj e => by have := (hO.lt j hj).2; omega))
      have HB2 := Lib.hid (hB.trans hbb (fun j hj e => by have := hB.size; omega))
      have HY0 := Lib.hid (show ((wr.alloc (.cells (pcells none).toArray 59)).setCells wr.heap.size 0 (pcells q)).cell? ⟨wr.heap.size, 0, none⟩ = some (.bool q.isSome) from by rw [HX0.out.cell 0, pcells_eq]; rfl)
      clear hO hB hR hbb hkl hq hnn
      obtain ⟨m0, hm0⟩ : ∃ m0, m0 = (ents T k).length := ⟨_, rfl⟩
      rw [← hm0] at HO2 HO hel ⊢
      have HM0 := Lib.hid hm0
      clear hm0
      cases q with
      | none =>
        go_wp2_with (first
          | (refine wpList_load_mid rfl 59 _ rfl g (k * 8) rfl (pcells none) _ HR.out Tryd.underlying59 rfl (by rw [pcells_length]; exact place_size) ?_)
          | (refine wpList_store_mid rfl 59 _ _ rfl wr.heap.size 0 (pcells none).toArray rfl rfl (blk_there0 HX.out (by rw [pcells_length]; simp [pcells_length])) (by simp only [List.size_toArray, pcells_length]; exact place_size) (all_oneCell_toArray (pcells_one none)) ?_
             change wpList _ _ _ _ _ ((wr.alloc (.cells (pcells none).toArray 59)).setCells wr.heap.size 0 (pcells none))
             generalize (wr.alloc (.cells (pcells none).toArray 59)).setCells wr.heap.size 0 (pcells none) = W2 at HX0 HO2 HB2 HY0 ⊢
             have y0 := HY0.out))
        go_roundw
        case rel =>
          refine ⟨k + 1, r, c, by omega, by go_num, ?_, ?_, HB2.out⟩
          · rw [HSN.out rfl, ← HM0.out]
          · rw [HSN.out rfl, ← HM0.out]; exact HO2.out
        case measure => simp [intOf]; omega
      | some e =>
        have HRE := Lib.hid (box_entry HX0.out)
        go_wp2_with (first
          | (refine wpList_load_mid rfl 59 _ rfl g (k * 8) rfl (pcells (some e)) _ HR.out Tryd.underlying59 rfl (by rw [pcells_length]; exact place_size) ?_)
          | (refine wpList_store_mid rfl 59 _ _ rfl wr.heap.size 0 (pcells (some e)).toArray rfl rfl (blk_there0 HX.out (by rw [pcells_length]; simp [pcells_length])) (by simp only [List.size_toArray, pcells_length]; exact place_size) (all_oneCell_toArray (pcells_one (some e))) ?_
             change wpList _ _ _ _ _ ((wr.alloc (.cells (pcells none).toArray 59)).setCells wr.heap.size 0 (pcells (some e)))
             obtain ⟨x, hx⟩ : ∃ x, x = wr.heap.size := ⟨_, rfl⟩
             rw [← hx] at HX0 HO2 HB2 HY0 HRE ⊢
             clear hx HX
             generalize (wr.alloc (.cells (pcells none).toArray 59)).setCells x 0 (pcells (some e)) = W2 at HX0 HO2 HB2 HY0 HRE ⊢
             have y0 := HY0.out)
          | (refine wpList_load_mid rfl 32 _ rfl x 1 rfl [.string e.key, .int .i64 e.seg, .int .i64 e.at_, .int .i64 e.len, .int .u64 (e.ver : Int), .int .u64 (e.exp : Int), .int .i64 e.size] _ HRE.out Tryd.underlying32 rfl entry_size ?_)
          | (at_builtin; refine wpList_append_onto rfl (.tmp 22) (.tmp 25) _ rfl w.heap.size 32 i0 _ 7 64 Tryd.underlying51 hi0 hz0 hz1 hz2 rfl (by omega) (.slice (some ⟨r, 0, none⟩) m0 c) m0 (ecl (ents T k)) rfl (ownsRow_alloc HO2.out _) (.slice (some ⟨W2.heap.size, 0, none⟩) 1 1) 1 (ecells e) rfl (sees_ent _ e _ _ _ rfl) (ecells_one e) (by simp only [maxLen]; omega) (by omega) (by rw [alloc_size]; have := HB2.out.size; omega) ?_; intro v5 w5 ho5 hon5))
        rw [← ecl_snoc] at ho5
        obtain ⟨r5, c5, rfl, hnc⟩ : ∃ g c, v5 = .slice (some ⟨g, 0, none⟩) (m0 + 1) c ∧ True := by
          rcases ho5.2 with ⟨_, h⟩ | ⟨g, cap, cur, hv, _⟩
          · omega
          · exact ⟨g, cap, hv, trivial⟩
        have hon := hon5.of_alloc (fun k hk => (HO2.out.lt k hk).2)
        have HB5 := Lib.hid (HB2.out.trans hon.but (fun j hj e => by have := HO2.out.lt j e.symm; omega))
        have HO5 := Lib.hid ho5
        clear ho5 hnc hon hon5
        go_roundw
        case rel =>
          have hl : (ents T (k + 1)).length = m0 + 1 := by rw [HSS.out e rfl, List.length_append, ← HM0.out]; rfl
          refine ⟨k + 1, r5, c5, by omega, by go_num, ?_, ?_, HB5.out⟩
          · rw [hl]
          · rw [hl, HSS.out e rfl]; exact HO5.out
        case measure => simp [intOf]; omega
    · have hkn : k = n := by omega
      have hkt : k = T.length := by omega
      have hO2 := hO
      rw [hkt] at hO2
      have hlen := ents_length T
      have hcl := cnt_le T
      have hS := ksort_any r c (ents T T.length) hO2 (by omega)
      have HS := Lib.hid hS
      have hrr := (hO.lt r rfl).1
      have HRR := Lib.hid hrr
      have HL := Lib.hid (show (ents T k).length = (ents T T.length).length by rw [hkt])
      obtain ⟨m0, hm0⟩ : ∃ m0, m0 = (ents T k).length := ⟨_, rfl⟩
      rw [← hm0] at HL ⊢
      have HL2 := Lib.hid HL.out.symm
      rw [HL2.out] at HS
      clear hO2 hO hB hS hnn hlen hcl hkt hrr hm0 HL HO
      go_wp2_with fail
      refine HS.out.mono ?_
      rintro e W4 ⟨rfl, L, hp, hr, he, hb⟩
      have HE := Lib.hid (And.intro hp (And.intro hr (And.intro he (HB.out.trans hb (fun j hj e => by have := HRR.out; omega)))))
      have HLL := Lib.hid (show m0 = L.length by rw [hp.length_eq, HL2.out])
      clear hp hr he hb
      go_wp2_with fail
      go_ret
      exact ⟨_, c, L, by rw [← HLL.out]; rfl, HE.out.1, HE.out.2.1, HE.out.2.2.1, HE.out.2.2.2⟩
end
end Go.Proofs.YtabclecfamkanaaDoor.Key
