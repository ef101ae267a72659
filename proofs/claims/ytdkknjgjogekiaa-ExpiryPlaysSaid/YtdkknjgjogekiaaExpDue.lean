/- Contract of the program's Due. -/
import Derived.Test.YtdkknjgjogekiaaExpItems
namespace Go.Proofs.Ytdkknjgjogekiaa.Exp
open Go.Proofs.Ytdkknjgjogekiaa.Mem
open Go.ChangeShapes Go.WideShapes Go.ChangeAt Go.RowKit
set_option linter.unusedVariables false
set_option linter.unusedSimpArgs false
section
variable {w w' : World} {B p : Nat} {v : Value} {l m : List It}
theorem HM.first {y : It} {t : List It} (h : HM w B p v (y :: t)) : ∃ g n c, v = .slice (some ⟨g, 0, none⟩) n c ∧ 0 < n ∧ n ≤ 1000 ∧ w.cell? ⟨p, 0, none⟩ = some v ∧ w.cell? ⟨g, 0, none⟩ = some (.int .u64 (y.time : Int)) ∧ w.cell? ⟨g, 1, none⟩ = some (.string y.key) := by
  obtain ⟨l, h, hh, hp, hr⟩ := h
  have hl : 0 < l.length := by rw [hp.length_eq]; simp
  have hy : look l 0 = y := by
    obtain ⟨a, t, rfl⟩ : ∃ a t, l = a :: t := List.exists_cons_of_length_pos hl
    exact least_one hh hr hp
  obtain ⟨g, cap, rest, h1, h2, h3, h4, h5, h6⟩ := h.row hl
  have hc := h6.cells hl
  rw [hy] at hc
  exact ⟨g, _, cap, h1, hl, h.few, h.blk.cell 0, by simpa using hc.1, by simpa using hc.2⟩
theorem HM.none (h : HM w B p v []) : ∃ a c, w.cell? ⟨p, 0, none⟩ = some (.slice a 0 c) := by
  obtain ⟨l, h, hh, hp, hr⟩ := h
  have : l = [] := List.eq_nil_of_length_eq_zero (by rw [hp.length_eq]; rfl)
  subst this
  obtain ⟨a, c, hv⟩ := h.shape
  refine ⟨a, c, ?_⟩
  have := h.blk.cell 0
  rw [hv] at this
  exact this
def lenOf : Value → Nat
  | .slice _ n _ => n
  | _ => 0
structure DueAt (w : World) (B p : Nat) (v : Value) (m : List It) (now : Nat) (x : Value) (j : Nat) (v' : Value) (wr : World) : Prop where
  row : wr.ownsRow w.heap.size 29 2 x j (rowI (m.take j))
  le : j ≤ m.length
  gone : ∀ i, i < j → (look m i).time ≤ now
  heap : HM wr B p v' (m.drop j)
  but : But (Foot p v) w wr
  own : v'.ownBlock = v.ownBlock
theorem look_drop {m : List It} {j : Nat} {y : It} {t : List It} (h : m.drop j = y :: t) : look m j = y ∧ j < m.length ∧ m.drop (j + 1) = t ∧ m.take (j + 1) = m.take j ++ [y] := by
  have hl : j < m.length := by
    rcases Nat.lt_or_ge j m.length with h1 | h1
    · exact h1
    · rw [List.drop_eq_nil_of_le h1] at h; cases h
  have e := List.drop_eq_getElem_cons hl
  rw [h] at e
  injection e with e1 e2
  refine ⟨by rw [look_get hl, ← e1], hl, e2.symm, ?_⟩
  rw [List.take_succ_eq_append_getElem hl, ← e1]
set_option maxRecDepth 100000 in
set_option maxHeartbeats 1000000 in
theorem hdue_any (h : HM w B p v m) (now : Nat) :
    Calls Try.prog 11 #[.pointer (some ⟨p, 0, none⟩), .int .u64 (now : Int)] w fun e w' => ∃ j x v', e = .returned x ∧ DueAt w B p v m now x j v' w' ∧ (j < m.length → now < (look m j).time) := by
  obtain ⟨i0, hi0, hz⟩ := Option.map_eq_some_iff.1 item_info
  simp only [Prod.mk.injEq] at hz
  obtain ⟨hz0, hz1, hz2⟩ := hz
  have hlt := h.lt
  have hfew := h.few
  have HS := Lib.hid (show DueAt w B p v m now (.slice none 0 0) 0 v w from ⟨⟨rfl, .inl ⟨rfl, rfl⟩⟩, by omega, fun i hi => by omega, h, But.refl _ _, rfl⟩)
  clear h
  go_enter Try.func11, Try.ntmps11
  go_wp2_with fail
  go_loopw [5] (fun x wr => ∃ (j : Nat) (v' : Value), DueAt w B p v m now x j v' wr) (fun x _ => m.length - lenOf x)
  case atStart => exact ⟨0, v, HS.out⟩
  case round =>
    obtain ⟨j, v', hD⟩ := hrel
    obtain ⟨ax, cx, rfl⟩ := own_slice hD.row
    have HD := Lib.hid hD
    cases hdr : m.drop j with
    | nil =>
      have hm := hD.heap
      rw [hdr] at hm
      obtain ⟨a, c, k0⟩ := hm.none
      have HDR := Lib.hid hdr
      clear hD hm hdr
      go_wp2_with fail
      go_ret
      refine ⟨j, _, v', rfl, HD.out, fun hj => ?_⟩
      have := congrArg List.length HDR.out
      rw [List.length_drop] at this
      simp at this
      omega
    | cons y t =>
      have hm := hD.heap
      rw [hdr] at hm
      obtain ⟨g, n, c, hv, hn0, hn1, k0, t0, t1⟩ := hm.first
      rw [hv] at k0
      have hld := look_drop hdr
      have HLD := Lib.hid hld
      have HDR := Lib.hid hdr
      by_cases ht : y.time ≤ now
      · have HP := Lib.hid (hpop_yes hm)
        clear hD hm hdr hld hv t1
        go_wp2_with fail
        refine HP.out.mono ?_
        rintro e w2 ⟨rfl, v2, hM, hB, ho⟩
        have ho2 : v2.ownBlock = v.ownBlock := ho.trans HD.out.own
        have hfe : ∀ k, Foot p v' k → Foot p v k := fun k hk => by
          rcases hk with e | e
          · exact .inl e
          · exact .inr (e.trans HD.out.own)
        have hwx : ∀ k, (Value.slice ax j cx).ownBlock = some k → ¬ Foot p v k := fun k hk hf => by
          have hb := (HD.out.row.lt k hk).1
          rcases hf with e | e
          · have := hlt.1; omega
          · have := (hlt.2 k e.symm).2.1; omega
        have hr2 := ownsRow_but HD.out.row hB (fun k hk hf => hwx k hk (hfe k hf))
        have hb2 : But (Foot p v) w w2 := HD.out.but.trans hB (fun k _ hf => hfe k hf)
        obtain ⟨W3, hW3⟩ : ∃ W3, W3 = w2.alloc (.cells #[.int .u64 (y.time : Int), .string y.key] 29) := ⟨_, rfl⟩
        have hb3 : But (fun _ => False) w2 W3 := by rw [hW3]; exact (But.refl _ w2).alloc _
        have hx := boxed w2 y
        have x0 := hx.1
        have x1 := hx.2
        obtain ⟨W4, hW4⟩ : ∃ W4, W4 = W3.alloc (.cells #[.int .u64 (y.time : Int), .string y.key] 29) := ⟨_, rfl⟩
        have hb4 : But (fun _ => False) w2 W4 := by rw [hW4]; exact hb3.alloc _
        have hs4 : Sees W4 2 (.slice (some ⟨w2.heap.size + 1, 0, none⟩) 1 1) 1 (icells y) := by
          rw [hW4]
          exact sees_item W3 y _ _ _ (by rw [hW3]; simp)
        have HS4 := Lib.hid hs4
        have HR4 := Lib.hid (ownsRow_but hr2 hb4 (fun _ _ h => h))
        have HM4 := Lib.hid (hM.new hb4)
        have HB4 := Lib.hid (hb2.trans hb4 (fun _ _ h => h.elim))
        have HWX := Lib.hid hwx
        have HO2 := Lib.hid ho2
        have HW := Lib.hid (show W4 = ((w2.alloc (.cells #[.int .u64 (y.time : Int), .string y.key] 29)).alloc (.cells #[.int .u64 (y.time : Int), .string y.key] 29)) by rw [hW4, hW3])
        have hjl := HLD.out.2.1
        clear hM hB ho hfe hwx hr2 hb2 hb3 hb4 hs4 hx HP hW3 hW4 ho2 k0 t0
        go_wp2_with (at_builtin; change wpList _ _ _ _ _ ((w2.alloc (.cells #[.int .u64 (y.time : Int), .string y.key] 29)).alloc (.cells #[.int .u64 (y.time : Int), .string y.key] 29)); rw [← HW.out]; refine wpList_append_onto rfl _ _ _ rfl w.heap.size 29 i0 _ 2 24 Try.underlying38 hi0 hz0 hz1 hz2 rfl (by omega) (.slice ax j cx) j (rowI (m.take j)) rfl HR4.out (.slice (some ⟨w2.heap.size + 1, 0, none⟩) 1 1) 1 (icells y) rfl HS4.out (icells_one y) (by unfold maxLen; omega) (by omega) (by have := HB4.out.size; omega) ?_; intro v5 w5 ho5 hon5)
        rw [rowI_snoc, ← HLD.out.2.2.2] at ho5
        obtain ⟨a5, c5, rfl⟩ := own_slice ho5
        have HST := Lib.hid (show DueAt w B p v m now (.slice a5 (j + 1) c5) (j + 1) v2 w5 from ⟨ho5, by omega, fun i hi => by
            by_cases hij : i = j
            · rw [hij, HLD.out.1]; exact ht
            · exact HD.out.gone i (by omega),
          by
            rw [HLD.out.2.2.1]
            refine HM4.out.but hon5.but (fun e => HWX.out p e.symm (.inl rfl)) (fun k hk e => HWX.out k e.symm (.inr (by rw [← HO2.out]; exact hk.symm))),
          HB4.out.trans hon5.but (fun k hk e => by
            have := (HD.out.row.lt k e.symm).1
            omega), HO2.out⟩)
        clear ho5 hon5 x0 x1
        go_wp2_with fail
        go_roundw
        case rel => exact ⟨j + 1, v2, HST.out⟩
        case measure => simp [lenOf]; omega
      · clear hD hm hdr hld hv t1
        go_wp2_with fail
        go_ret
        refine ⟨j, _, v', rfl, HD.out, fun hj => ?_⟩
        rw [HLD.out.1]
        omega
end
end Go.Proofs.Ytdkknjgjogekiaa.Exp
