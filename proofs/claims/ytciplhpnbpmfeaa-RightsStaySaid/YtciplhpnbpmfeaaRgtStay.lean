/- RightsStay: what was put has its rights, till it is revoked, with its secret alone. -/
import Derived.Test.YtciplhpnbpmfeaaRgtDeed
namespace Go.Proofs.Ytciplhpnbpmfeaa.Rgt
open Go.Proofs.Ytciplhpnbpmfeaa.Mem
open Go.ChangeShapes Go.WideShapes Go.ChangeAt Go.RowKit
open Go.Proofs.Ytciplhpnbpmfeaa.Err (errV errV_zero errV_some)
set_option linter.unusedVariables false
set_option linter.unusedSimpArgs false
/- The law leaves at once: too many deeds, or no rights. -/
set_option maxRecDepth 100000 in
set_option maxHeartbeats 1000000 in
theorem stay_away {W : World} {a : Option Addr} {n c : Nat} (s : Nat) (own : Int) (k o : Nat) (h : 90 < n ∨ own < 1 ∨ 7 < own) (hn : n ≤ 9223372036854775807) :
    Calls Try.prog 4 #[.slice a n c, .int .u32 (s : Int), .int .i64 own, .int .u64 (k : Int), .int .u64 (o : Int)] W fun e w' => e = .returned (.bool true) ∧ But (fun _ => False) W w' := by
  have HU := Lib.hid (up_any W)
  have HN := Lib.hid rgt_new
  by_cases h1 : (90 : Int) < (n : Int)
  · clear h
    go_enter Try.func4, Try.ntmps4
    go_wp2_with fail
    refine HU.out.mono ?_
    rintro e w1 ⟨rfl, hB⟩
    have HB := Lib.hid hB
    clear hB
    go_wp2_with fail
    refine (HN.out w1).mono ?_
    rintro e w2 ⟨p, mb, rfl, hA, hl, hB⟩
    have HB := Lib.hid (HB.out.trans hB (fun _ _ h => h))
    clear hB hA hl
    go_wp2_with fail
    go_ret
    exact ⟨rfl, HB.out⟩
  · by_cases h2 : own < 1
    · clear h
      go_enter Try.func4, Try.ntmps4
      go_wp2_with fail
      refine HU.out.mono ?_
      rintro e w1 ⟨rfl, hB⟩
      have HB := Lib.hid hB
      clear hB
      go_wp2_with fail
      refine (HN.out w1).mono ?_
      rintro e w2 ⟨p, mb, rfl, hA, hl, hB⟩
      have HB := Lib.hid (HB.out.trans hB (fun _ _ h => h))
      clear hB hA hl
      go_wp2_with fail
      go_ret
      exact ⟨rfl, HB.out⟩
    · have h3 : 7 < own := by omega
      clear h
      go_enter Try.func4, Try.ntmps4
      go_wp2_with fail
      refine HU.out.mono ?_
      rintro e w1 ⟨rfl, hB⟩
      have HB := Lib.hid hB
      clear hB
      go_wp2_with fail
      refine (HN.out w1).mono ?_
      rintro e w2 ⟨p, mb, rfl, hA, hl, hB⟩
      have HB := Lib.hid (HB.out.trans hB (fun _ _ h => h))
      clear hB hA hl
      go_wp2_with fail
      go_ret
      exact ⟨rfl, HB.out⟩
/- What holds behind some deeds. -/
structure SR (W wr : World) (p mb : Nat) (x : Tok) : Prop where
  live : ∃ T, Live W wr p mb T ∧ look x.s T = some x
section
variable {W w w' : World} {p mb : Nat} {x : Tok}
theorem SR.step {T : List Tok} (h : Live W w p mb T) (hl : look x.s T = some x) {y : Tok} (hy : y.s ≠ x.s) (hA : RAt w' p mb (putTo y T)) (hB : But (fun j => j = mb) w w') : SR W w' p mb x :=
  ⟨_, h.turn hA hB, by rw [look_putTo h.at_.good.ris y (fun e => hy e.symm)]; exact hl⟩
theorem SR.gone {T : List Tok} (h : Live W w p mb T) (hl : look x.s T = some x) {s : Nat} (hy : s ≠ x.s) (hA : RAt w' p mb (del s T)) (hB : But (fun j => j = mb) w w') : SR W w' p mb x :=
  ⟨_, h.turn hA hB, by rw [look_del h.at_.good.ris, if_neg (fun e => hy e.symm)]; exact hl⟩
end
set_option maxRecDepth 100000 in
set_option maxHeartbeats 1000000 in
theorem stay_any {W : World} {a : Option Addr} {l : List Deed} {c : Nat} (hD : Deeds W a l) (hl : l.length ≤ 90) {s : Nat} (hs : s < 4294967296) {own : Int} (ho : 1 ≤ own ∧ own ≤ 7) {k o : Nat} (hk : k < 18446744073709551616) :
    Calls Try.prog 4 #[.slice a l.length c, .int .u32 (s : Int), .int .i64 own, .int .u64 (k : Int), .int .u64 (o : Int)] W fun e w' => e = .returned (.bool true) ∧ But (fun _ => False) W w' := by
  have HU := Lib.hid (up_any W)
  have HN := Lib.hid rgt_new
  have HD := Lib.hid hD
  obtain ⟨n, hn⟩ : ∃ n, n = l.length := ⟨_, rfl⟩
  rw [← hn] at hl ⊢
  have HNL := Lib.hid hn
  have h1 : ¬ (90 : Int) < (n : Int) := by omega
  have h2 : ¬ own < 1 := by omega
  have h3 : ¬ 7 < own := by omega
  obtain ⟨x, hx⟩ : ∃ x : Tok, x = ⟨s, own, k⟩ := ⟨_, rfl⟩
  have HX := Lib.hid hx
  have HO := Lib.hid ho
  clear hD hn hx ho
  go_enter Try.func4, Try.ntmps4
  go_wp2_with fail
  refine HU.out.mono ?_
  rintro e w1 ⟨rfl, hB⟩
  have HB := Lib.hid hB
  clear hB
  go_wp2_with fail
  refine (HN.out w1).mono ?_
  rintro e w2 ⟨p, mb, rfl, hA, hlw, hB⟩
  have HL := Lib.hid (show Live W w2 p mb [] from (show Live w1 w2 p mb [] from ⟨hA, hlw, hB⟩).more HB.out)
  have HP := Lib.hid (rgt_put hA hs hk own)
  clear hB hA hlw HB HU HN
  go_wp2_with fail
  refine HP.out.mono ?_
  rintro e w3 ⟨rfl, hA, hB⟩
  have e0 : putErr s own [] = 0 := by unfold putErr; rw [if_neg (by have := HO.out; omega), if_neg (by simp)]
  rw [e0, errV_zero]
  have HS := Lib.hid (show SR W w3 p mb x from ⟨_, HL.out.turn hA hB, by
    have h4 : putTo ⟨s, own, k⟩ [] = put ⟨s, own, k⟩ [] := if_pos e0
    rw [h4, HX.out, look_put _ List.Pairwise.nil, if_pos rfl]⟩)
  clear hA hB e0 HL HP h1 h2 h3
  go_wp2_with fail
  go_loopw [14] (fun v wr => ∃ i : Nat, i ≤ n ∧ v = .int .i64 (i : Int) ∧ SR W wr p mb x) (fun v _ => n - (intOf v).toNat)
  case atStart => exact ⟨0, by omega, rfl, HS.out⟩
  case round =>
    obtain ⟨i, hi, rfl, hS⟩ := hrel
    obtain ⟨T, hL, hlk⟩ := hS.live
    have HLK := Lib.hid hlk
    have hXs : x.s = s := by rw [HX.out]
    have HXS := Lib.hid hXs
    clear hS hlk hXs
    by_cases hlt : i < n
    · have hil : i < l.length := by rw [← HNL.out]; exact hlt
      obtain ⟨g, of, rfl, c0, c1, c2, c3⟩ := HD.out.get hL.but hil
      obtain ⟨d, hd⟩ : ∃ d, d = l[i] := ⟨_, rfl⟩
      have hok := HD.out.is_ _ (List.getElem_mem hil)
      rw [← hd] at c0 c1 c2 c3 hok
      have HOK := Lib.hid hok
      have HL := Lib.hid hL
      clear hd hok hL
      by_cases hds : d.s = s
      · have hdi : ((d.s : Int) = (s : Int)) := by omega
        clear hds
        go_wp2_with fail
        go_roundw
        case rel => exact ⟨i + 1, by omega, by simp, ⟨_, HL.out, HLK.out⟩⟩
        case measure => simp [intOf]; omega
      · have hdi : ¬ ((d.s : Int) = (s : Int)) := by omega
        have HDS := Lib.hid (show d.s ≠ x.s from by rw [HXS.out]; exact hds)
        clear hds
        have HPK := Lib.hid (pick_any d.w HOK.out.w.1 HOK.out.w.2)
        obtain ⟨q, hq⟩ : ∃ q, q = pickN d.w := ⟨_, rfl⟩
        rw [← hq] at HPK
        clear hq
        by_cases hq2 : q = 2
        · subst hq2
          have HR := Lib.hid (rgt_revoke HL.out.at_ HOK.out.s)
          go_wp2_with (first
            | (go_at_call 10; refine (HPK.out _).mono ?_; rintro e w4 ⟨rfl, rfl⟩)
            | (go_at_call 11; refine HR.out.mono ?_; rintro e w5 ⟨rfl, hA, hB⟩
               have HS5 := Lib.hid (show SR W w5 p mb x from SR.gone HL.out HLK.out HDS.out hA hB)
               clear hA hB c0 c1 c2 c3))
          go_roundw
          case rel => exact ⟨i + 1, by omega, by simp, HS5.out⟩
          case measure => simp [intOf]; omega
        · have hq2i : ¬ ((q : Int) = 2) := by omega
          have HP := Lib.hid (rgt_put HL.out.at_ HOK.out.s HOK.out.k d.r)
          go_wp2_with (first
            | (go_at_call 10; refine (HPK.out _).mono ?_; rintro e w4 ⟨rfl, rfl⟩))
          have hLd := HL.out.new ((But.refl (fun _ => False) wr).drewN 1)
          have HP := Lib.hid (show Calls Try.prog 13 #[.pointer (some ⟨p, 0, none⟩), .int .u32 (d.s : Int), .int .i64 d.r, .int .u64 (d.k : Int)] wr.drew _ from rgt_put hLd.at_ HOK.out.s HOK.out.k d.r)
          have HL := Lib.hid (show Live W wr.drew p mb T from hLd)
          have HC := Lib.hid (And.intro c1 (And.intro c2 c3))
          clear hLd c0 c1 c2 c3
          refine Late.region_goes (fun V => V = wr.drew) (fun i => i == 16) (by kernel_rfl) ?_ (fun hH => ?_)
          · rfl
          refine Late.Goes.takeT (i := 0) (v := ?_) (by simp only [List.getElem?_toArray, List.getElem?_cons_succ, List.getElem?_cons_zero]; rfl) (by kernel_rfl) (by kernel_rfl) (by kernel_rfl) (by kernel_rfl) (by kernel_rfl) (by exact fun _ _ _ h => h) (Or.inl ⟨by rfl, ?_⟩) hH ?_
          rotate_left
          · (intro wy hSw; (try dsimp only at hSw); subst hSw; have d1 : wr.drew.cell? ⟨g, of + i * 4 + 1, none⟩ = some (.int .u32 (d.s : Int)) := HC.out.1; have d2 : wr.drew.cell? ⟨g, of + i * 4 + 2, none⟩ = some (.int .i64 d.r) := HC.out.2.1; have d3 : wr.drew.cell? ⟨g, of + i * 4 + 3, none⟩ = some (.int .u64 (d.k : Int)) := HC.out.2.2; go_simp; try (with_reducible rfl))
          try simp only [Act.put, List.setIfInBounds_toArray, List.set_cons_zero, List.set_cons_succ]
          refine Late.Goes.takeT (i := 1) (v := ?_) (by simp only [List.getElem?_toArray, List.getElem?_cons_succ, List.getElem?_cons_zero]; rfl) (by kernel_rfl) (by kernel_rfl) (by kernel_rfl) (by kernel_rfl) (by kernel_rfl) (by exact fun _ _ _ h => h) (Or.inl ⟨by rfl, ?_⟩) hH ?_
          rotate_left
          · (intro wy hSw; (try dsimp only at hSw); subst hSw; have d1 : wr.drew.cell? ⟨g, of + i * 4 + 1, none⟩ = some (.int .u32 (d.s : Int)) := HC.out.1; have d2 : wr.drew.cell? ⟨g, of + i * 4 + 2, none⟩ = some (.int .i64 d.r) := HC.out.2.1; have d3 : wr.drew.cell? ⟨g, of + i * 4 + 3, none⟩ = some (.int .u64 (d.k : Int)) := HC.out.2.2; go_simp; try (with_reducible rfl))
          try simp only [Act.put, List.setIfInBounds_toArray, List.set_cons_zero, List.set_cons_succ]
          refine Late.Goes.takeT (i := 2) (v := ?_) (by simp only [List.getElem?_toArray, List.getElem?_cons_succ, List.getElem?_cons_zero]; rfl) (by kernel_rfl) (by kernel_rfl) (by kernel_rfl) (by kernel_rfl) (by kernel_rfl) (by exact fun _ _ _ h => h) (Or.inl ⟨by rfl, ?_⟩) hH ?_
          rotate_left
          · (intro wy hSw; (try dsimp only at hSw); subst hSw; have d1 : wr.drew.cell? ⟨g, of + i * 4 + 1, none⟩ = some (.int .u32 (d.s : Int)) := HC.out.1; have d2 : wr.drew.cell? ⟨g, of + i * 4 + 2, none⟩ = some (.int .i64 d.r) := HC.out.2.1; have d3 : wr.drew.cell? ⟨g, of + i * 4 + 3, none⟩ = some (.int .u64 (d.k : Int)) := HC.out.2.2; go_simp; try (with_reducible rfl))
          try simp only [Act.put, List.setIfInBounds_toArray, List.set_cons_zero, List.set_cons_succ]
          refine Late.Goes.takeT (i := 3) (v := ?_) (by simp only [List.getElem?_toArray, List.getElem?_cons_succ, List.getElem?_cons_zero]; rfl) (by kernel_rfl) (by kernel_rfl) (by kernel_rfl) (by kernel_rfl) (by kernel_rfl) (by exact fun _ _ _ h => h) (Or.inl ⟨by rfl, ?_⟩) hH ?_
          rotate_left
          · (intro wy hSw; (try dsimp only at hSw); subst hSw; have d1 : wr.drew.cell? ⟨g, of + i * 4 + 1, none⟩ = some (.int .u32 (d.s : Int)) := HC.out.1; have d2 : wr.drew.cell? ⟨g, of + i * 4 + 2, none⟩ = some (.int .i64 d.r) := HC.out.2.1; have d3 : wr.drew.cell? ⟨g, of + i * 4 + 3, none⟩ = some (.int .u64 (d.k : Int)) := HC.out.2.2; go_simp; try (with_reducible rfl))
          try simp only [Act.put, List.setIfInBounds_toArray, List.set_cons_zero, List.set_cons_succ]
          refine Late.Goes.takeT (i := 4) (v := ?_) (by simp only [List.getElem?_toArray, List.getElem?_cons_succ, List.getElem?_cons_zero]; rfl) (by kernel_rfl) (by kernel_rfl) (by kernel_rfl) (by kernel_rfl) (by kernel_rfl) (by exact fun _ _ _ h => h) (Or.inl ⟨by rfl, ?_⟩) hH ?_
          rotate_left
          · (intro wy hSw; (try dsimp only at hSw); subst hSw; have d1 : wr.drew.cell? ⟨g, of + i * 4 + 1, none⟩ = some (.int .u32 (d.s : Int)) := HC.out.1; have d2 : wr.drew.cell? ⟨g, of + i * 4 + 2, none⟩ = some (.int .i64 d.r) := HC.out.2.1; have d3 : wr.drew.cell? ⟨g, of + i * 4 + 3, none⟩ = some (.int .u64 (d.k : Int)) := HC.out.2.2; go_simp; try (with_reducible rfl))
          try simp only [Act.put, List.setIfInBounds_toArray, List.set_cons_zero, List.set_cons_succ]
          refine Late.Goes.takeT (i := 5) (v := ?_) (by simp only [List.getElem?_toArray, List.getElem?_cons_succ, List.getElem?_cons_zero]; rfl) (by kernel_rfl) (by kernel_rfl) (by kernel_rfl) (by kernel_rfl) (by kernel_rfl) (by exact fun _ _ _ h => h) (Or.inl ⟨by rfl, ?_⟩) hH ?_
          rotate_left
          · (intro wy hSw; (try dsimp only at hSw); subst hSw; have d1 : wr.drew.cell? ⟨g, of + i * 4 + 1, none⟩ = some (.int .u32 (d.s : Int)) := HC.out.1; have d2 : wr.drew.cell? ⟨g, of + i * 4 + 2, none⟩ = some (.int .i64 d.r) := HC.out.2.1; have d3 : wr.drew.cell? ⟨g, of + i * 4 + 3, none⟩ = some (.int .u64 (d.k : Int)) := HC.out.2.2; go_simp; try (with_reducible rfl))
          try simp only [Act.put, List.setIfInBounds_toArray, List.set_cons_zero, List.set_cons_succ]
          refine Late.Goes.takeT (i := 6) (v := ?_) (by simp only [List.getElem?_toArray, List.getElem?_cons_succ, List.getElem?_cons_zero]; rfl) (by kernel_rfl) (by kernel_rfl) (by kernel_rfl) (by kernel_rfl) (by kernel_rfl) (by exact fun _ _ _ h => h) (Or.inl ⟨by rfl, ?_⟩) hH ?_
          rotate_left
          · (intro wy hSw; (try dsimp only at hSw); subst hSw; have d1 : wr.drew.cell? ⟨g, of + i * 4 + 1, none⟩ = some (.int .u32 (d.s : Int)) := HC.out.1; have d2 : wr.drew.cell? ⟨g, of + i * 4 + 2, none⟩ = some (.int .i64 d.r) := HC.out.2.1; have d3 : wr.drew.cell? ⟨g, of + i * 4 + 3, none⟩ = some (.int .u64 (d.k : Int)) := HC.out.2.2; go_simp; try (with_reducible rfl))
          try simp only [Act.put, List.setIfInBounds_toArray, List.set_cons_zero, List.set_cons_succ]
          refine Late.Goes.takeT (i := 7) (v := ?_) (by simp only [List.getElem?_toArray, List.getElem?_cons_succ, List.getElem?_cons_zero]; rfl) (by kernel_rfl) (by kernel_rfl) (by kernel_rfl) (by kernel_rfl) (by kernel_rfl) (by exact fun _ _ _ h => h) (Or.inl ⟨by rfl, ?_⟩) hH ?_
          rotate_left
          · (intro wy hSw; (try dsimp only at hSw); subst hSw; have d1 : wr.drew.cell? ⟨g, of + i * 4 + 1, none⟩ = some (.int .u32 (d.s : Int)) := HC.out.1; have d2 : wr.drew.cell? ⟨g, of + i * 4 + 2, none⟩ = some (.int .i64 d.r) := HC.out.2.1; have d3 : wr.drew.cell? ⟨g, of + i * 4 + 3, none⟩ = some (.int .u64 (d.k : Int)) := HC.out.2.2; go_simp; try (with_reducible rfl))
          try simp only [Act.put, List.setIfInBounds_toArray, List.set_cons_zero, List.set_cons_succ]
          refine Late.Goes.takeT (i := 8) (v := ?_) (by simp only [List.getElem?_toArray, List.getElem?_cons_succ, List.getElem?_cons_zero]; rfl) (by kernel_rfl) (by kernel_rfl) (by kernel_rfl) (by kernel_rfl) (by kernel_rfl) (by exact fun _ _ _ h => h) (Or.inl ⟨by rfl, ?_⟩) hH ?_
          rotate_left
          · (intro wy hSw; (try dsimp only at hSw); subst hSw; have d1 : wr.drew.cell? ⟨g, of + i * 4 + 1, none⟩ = some (.int .u32 (d.s : Int)) := HC.out.1; have d2 : wr.drew.cell? ⟨g, of + i * 4 + 2, none⟩ = some (.int .i64 d.r) := HC.out.2.1; have d3 : wr.drew.cell? ⟨g, of + i * 4 + 3, none⟩ = some (.int .u64 (d.k : Int)) := HC.out.2.2; go_simp; try (with_reducible rfl))
          try simp only [Act.put, List.setIfInBounds_toArray, List.set_cons_zero, List.set_cons_succ]
          refine Late.Goes.takeT (i := 9) (v := ?_) (by simp only [List.getElem?_toArray, List.getElem?_cons_succ, List.getElem?_cons_zero]; rfl) (by kernel_rfl) (by kernel_rfl) (by kernel_rfl) (by kernel_rfl) (by kernel_rfl) (by exact fun _ _ _ h => h) (Or.inl ⟨by rfl, ?_⟩) hH ?_
          rotate_left
          · (intro wy hSw; (try dsimp only at hSw); subst hSw; have d1 : wr.drew.cell? ⟨g, of + i * 4 + 1, none⟩ = some (.int .u32 (d.s : Int)) := HC.out.1; have d2 : wr.drew.cell? ⟨g, of + i * 4 + 2, none⟩ = some (.int .i64 d.r) := HC.out.2.1; have d3 : wr.drew.cell? ⟨g, of + i * 4 + 3, none⟩ = some (.int .u64 (d.k : Int)) := HC.out.2.2; go_simp; try (with_reducible rfl))
          try simp only [Act.put, List.setIfInBounds_toArray, List.set_cons_zero, List.set_cons_succ]
          refine Late.Goes.takeT (i := 10) (v := ?_) (by simp only [List.getElem?_toArray, List.getElem?_cons_succ, List.getElem?_cons_zero]; rfl) (by kernel_rfl) (by kernel_rfl) (by kernel_rfl) (by kernel_rfl) (by kernel_rfl) (by exact fun _ _ _ h => h) (Or.inl ⟨by rfl, ?_⟩) hH ?_
          rotate_left
          · (intro wy hSw; (try dsimp only at hSw); subst hSw; have d1 : wr.drew.cell? ⟨g, of + i * 4 + 1, none⟩ = some (.int .u32 (d.s : Int)) := HC.out.1; have d2 : wr.drew.cell? ⟨g, of + i * 4 + 2, none⟩ = some (.int .i64 d.r) := HC.out.2.1; have d3 : wr.drew.cell? ⟨g, of + i * 4 + 3, none⟩ = some (.int .u64 (d.k : Int)) := HC.out.2.2; go_simp; try (with_reducible rfl))
          try simp only [Act.put, List.setIfInBounds_toArray, List.set_cons_zero, List.set_cons_succ]
          refine Late.Goes.takeT (i := 11) (v := ?_) (by simp only [List.getElem?_toArray, List.getElem?_cons_succ, List.getElem?_cons_zero]; rfl) (by kernel_rfl) (by kernel_rfl) (by kernel_rfl) (by kernel_rfl) (by kernel_rfl) (by exact fun _ _ _ h => h) (Or.inl ⟨by rfl, ?_⟩) hH ?_
          rotate_left
          · (intro wy hSw; (try dsimp only at hSw); subst hSw; have d1 : wr.drew.cell? ⟨g, of + i * 4 + 1, none⟩ = some (.int .u32 (d.s : Int)) := HC.out.1; have d2 : wr.drew.cell? ⟨g, of + i * 4 + 2, none⟩ = some (.int .i64 d.r) := HC.out.2.1; have d3 : wr.drew.cell? ⟨g, of + i * 4 + 3, none⟩ = some (.int .u64 (d.k : Int)) := HC.out.2.2; go_simp; try (with_reducible rfl))
          try simp only [Act.put, List.setIfInBounds_toArray, List.set_cons_zero, List.set_cons_succ]
          refine Late.Goes.takeT (i := 12) (v := ?_) (by simp only [List.getElem?_toArray, List.getElem?_cons_succ, List.getElem?_cons_zero]; rfl) (by kernel_rfl) (by kernel_rfl) (by kernel_rfl) (by kernel_rfl) (by kernel_rfl) (by exact fun _ _ _ h => h) (Or.inl ⟨by rfl, ?_⟩) hH ?_
          rotate_left
          · (intro wy hSw; (try dsimp only at hSw); subst hSw; have d1 : wr.drew.cell? ⟨g, of + i * 4 + 1, none⟩ = some (.int .u32 (d.s : Int)) := HC.out.1; have d2 : wr.drew.cell? ⟨g, of + i * 4 + 2, none⟩ = some (.int .i64 d.r) := HC.out.2.1; have d3 : wr.drew.cell? ⟨g, of + i * 4 + 3, none⟩ = some (.int .u64 (d.k : Int)) := HC.out.2.2; go_simp; try (with_reducible rfl))
          try simp only [Act.put, List.setIfInBounds_toArray, List.set_cons_zero, List.set_cons_succ]
          refine Late.Goes.takeT (i := 13) (v := ?_) (by simp only [List.getElem?_toArray, List.getElem?_cons_succ, List.getElem?_cons_zero]; rfl) (by kernel_rfl) (by kernel_rfl) (by kernel_rfl) (by kernel_rfl) (by kernel_rfl) (by exact fun _ _ _ h => h) (Or.inl ⟨by rfl, ?_⟩) hH ?_
          rotate_left
          · (intro wy hSw; (try dsimp only at hSw); subst hSw; have d1 : wr.drew.cell? ⟨g, of + i * 4 + 1, none⟩ = some (.int .u32 (d.s : Int)) := HC.out.1; have d2 : wr.drew.cell? ⟨g, of + i * 4 + 2, none⟩ = some (.int .i64 d.r) := HC.out.2.1; have d3 : wr.drew.cell? ⟨g, of + i * 4 + 3, none⟩ = some (.int .u64 (d.k : Int)) := HC.out.2.2; go_simp; try (with_reducible rfl))
          try simp only [Act.put, List.setIfInBounds_toArray, List.set_cons_zero, List.set_cons_succ]
          refine Late.Goes.takeT (i := 14) (v := ?_) (by simp only [List.getElem?_toArray, List.getElem?_cons_succ, List.getElem?_cons_zero]; rfl) (by kernel_rfl) (by kernel_rfl) (by kernel_rfl) (by kernel_rfl) (by kernel_rfl) (by exact fun _ _ _ h => h) (Or.inl ⟨by rfl, ?_⟩) hH ?_
          rotate_left
          · (intro wy hSw; (try dsimp only at hSw); subst hSw; have d1 : wr.drew.cell? ⟨g, of + i * 4 + 1, none⟩ = some (.int .u32 (d.s : Int)) := HC.out.1; have d2 : wr.drew.cell? ⟨g, of + i * 4 + 2, none⟩ = some (.int .i64 d.r) := HC.out.2.1; have d3 : wr.drew.cell? ⟨g, of + i * 4 + 3, none⟩ = some (.int .u64 (d.k : Int)) := HC.out.2.2; go_simp; try (with_reducible rfl))
          try simp only [Act.put, List.setIfInBounds_toArray, List.set_cons_zero, List.set_cons_succ]
          refine Late.Goes.takeT (i := 15) (v := ?_) (by simp only [List.getElem?_toArray, List.getElem?_cons_succ, List.getElem?_cons_zero]; rfl) (by kernel_rfl) (by kernel_rfl) (by kernel_rfl) (by kernel_rfl) (by kernel_rfl) (by exact fun _ _ _ h => h) (Or.inl ⟨by rfl, ?_⟩) hH ?_
          rotate_left
          · (intro wy hSw; (try dsimp only at hSw); subst hSw; have d1 : wr.drew.cell? ⟨g, of + i * 4 + 1, none⟩ = some (.int .u32 (d.s : Int)) := HC.out.1; have d2 : wr.drew.cell? ⟨g, of + i * 4 + 2, none⟩ = some (.int .i64 d.r) := HC.out.2.1; have d3 : wr.drew.cell? ⟨g, of + i * 4 + 3, none⟩ = some (.int .u64 (d.k : Int)) := HC.out.2.2; go_simp; try (with_reducible rfl))
          try simp only [Act.put, List.setIfInBounds_toArray, List.set_cons_zero, List.set_cons_succ]
          refine Late.Goes.one (i := 16) (by kernel_rfl) (by simp only [List.getElem?_toArray, List.getElem?_cons_succ, List.getElem?_cons_zero]; rfl) (fun K hK => ?_)
          clear hH
          go_simp
          go_at_call 13
          refine HP.out.mono ?_
          rintro e w5 ⟨rfl, hA, hB⟩
          have HS5 := Lib.hid (show SR W w5 p mb x from SR.step (y := ⟨d.s, d.r, d.k⟩) HL.out HLK.out HDS.out hA hB)
          clear hA hB HP HL HC HDS HOK HLK HPK
          refine hK.out _ _ ?_ (fun _ => ?_)
          · exact fun h => by cases h
          clear hK K
          try simp only [Act.put, List.setIfInBounds_toArray, List.set_cons_zero, List.set_cons_succ]
          refine Late.Goes.done (by kernel_rfl) ?_ _
          go_wp2_with fail
          go_roundw
          case rel => exact ⟨i + 1, by omega, by simp, HS5.out⟩
          case measure => simp [intOf]; omega
    · have hin : i = n := by omega
      have HL := Lib.hid hL
      have hk0 : has s k T = own := by unfold has; rw [← HXS.out, HLK.out]; rw [HX.out]; exact if_pos rfl
      have HR1 := Lib.hid (rgt_rights (k := k) hL.at_ hs)
      rw [hk0] at HR1
      clear hL hk0
      go_wp2_with fail
      refine HR1.out.mono ?_
      rintro e w4 ⟨rfl, hB⟩
      have HL := Lib.hid (HL.out.new hB)
      clear hB HR1
      have HS0 := Lib.hid HL.out.at_.good.ris
      by_cases hok : o = k
      · have hoi : ((o : Int) = (k : Int)) := by omega
        clear hok
        have HR2 := Lib.hid (rgt_revoke HL.out.at_ hs)
        rw [show (look s T).isSome = true from by rw [← HXS.out, HLK.out]; rfl] at HR2
        go_wp2_with fail
        refine HR2.out.mono ?_
        rintro e w6 ⟨rfl, hA, hB⟩
        have HL := Lib.hid (HL.out.turn hA hB)
        have HR3 := Lib.hid (rgt_revoke HL.out.at_ hs)
        have HRS := Lib.hid HS0.out
        rw [show (look s (del s T)).isSome = false from by rw [look_del HS0.out, if_pos rfl]; rfl] at HR3
        clear hA hB HR2
        go_wp2_with fail
        refine HR3.out.mono ?_
        rintro e w7 ⟨rfl, hA, hB⟩
        have HL := Lib.hid (HL.out.turn hA hB)
        have HR4 := Lib.hid (rgt_rights (k := k) HL.out.at_ hs)
        rw [show has s k (del s (del s T)) = 0 from by unfold has; rw [look_del (HS0.out.del s), if_pos rfl]] at HR4
        clear hA hB HR3
        go_wp2_with fail
        refine HR4.out.mono ?_
        rintro e w8 ⟨rfl, hB⟩
        have HL := Lib.hid (HL.out.new hB)
        clear hB HR4
        go_wp2_with fail
        go_ret
        exact ⟨rfl, HL.out.but⟩
      · have hoi : ¬ ((o : Int) = (k : Int)) := by omega
        have hk0 : has s o T = 0 := by unfold has; rw [← HXS.out, HLK.out]; rw [HX.out]; exact if_neg (fun e => hok e.symm)
        have HR1 := Lib.hid (rgt_rights (k := o) HL.out.at_ hs)
        rw [hk0] at HR1
        clear hok hk0
        go_wp2_with fail
        refine HR1.out.mono ?_
        rintro e w5 ⟨rfl, hB⟩
        have HL := Lib.hid (HL.out.new hB)
        clear hB HR1
        have HR2 := Lib.hid (rgt_revoke HL.out.at_ hs)
        rw [show (look s T).isSome = true from by rw [← HXS.out, HLK.out]; rfl] at HR2
        go_wp2_with fail
        refine HR2.out.mono ?_
        rintro e w6 ⟨rfl, hA, hB⟩
        have HL := Lib.hid (HL.out.turn hA hB)
        have HR3 := Lib.hid (rgt_revoke HL.out.at_ hs)
        have HRS := Lib.hid HS0.out
        rw [show (look s (del s T)).isSome = false from by rw [look_del HS0.out, if_pos rfl]; rfl] at HR3
        clear hA hB HR2
        go_wp2_with fail
        refine HR3.out.mono ?_
        rintro e w7 ⟨rfl, hA, hB⟩
        have HL := Lib.hid (HL.out.turn hA hB)
        have HR4 := Lib.hid (rgt_rights (k := k) HL.out.at_ hs)
        rw [show has s k (del s (del s T)) = 0 from by unfold has; rw [look_del (HS0.out.del s), if_pos rfl]] at HR4
        clear hA hB HR3
        go_wp2_with fail
        refine HR4.out.mono ?_
        rintro e w8 ⟨rfl, hB⟩
        have HL := Lib.hid (HL.out.new hB)
        clear hB HR4
        go_wp2_with fail
        go_ret
        exact ⟨rfl, HL.out.but⟩
end Go.Proofs.Ytciplhpnbpmfeaa.Rgt
