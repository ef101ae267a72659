/- RightsPlays: what any tokens, put and revoked, come to; whether rights are within others. -/
import Derived.Test.YtciplhpnbpmfeaaRgtDeed
import Derived.Test.YtciplhpnbpmfeaaRgtEq
import Derived.Test.YtciplhpnbpmfeaaMany
import Derived.Deep.CutRange
import Derived.IntWalk
namespace Go.Proofs.Ytciplhpnbpmfeaa.Rgt
open Go.Proofs.Ytciplhpnbpmfeaa.Mem
open Go.ChangeShapes Go.WideShapes Go.ChangeAt Go.RowKit
open Go.Proofs.Ytciplhpnbpmfeaa.Err (errV errV_zero errV_some code_any)
set_option linter.unusedVariables false
set_option linter.unusedSimpArgs false
/- What holds behind some deeds: the table, and the law's own list. -/
structure PR (W wr : World) (p mb : Nat) (v : Value) (T : List Tok) : Prop where
  live : Live W wr p mb T
  row : wr.ownsRow W.heap.size 43 14 v T.length (rcl T)
theorem own_map_ne {w : World} {base g n : Nat} {t k : TypeId} {v : Value} {m : Nat} {xs : List Value} {H : Type} {P : Program} {R : Value → Option (DataW H × List MemPlace)} {D : DataW H} {size : Nat} (ho : w.ownsRow base t size v m xs) (hm : w.ownsMap P k R g n D) : ∀ j, v.ownBlock = some j → j ≠ g := by
  intro j hj e
  subst e
  rcases ho.2 with ⟨rfl, _⟩ | ⟨g', cap, cur, rfl, _, hh, _⟩
  · simp [Value.ownBlock] at hj
  · have : g' = j := by simpa [Value.ownBlock] using hj
    subst this
    obtain ⟨es, clock, hb, _⟩ := hm
    rw [hh] at hb
    cases hb
theorem blk_map_ne {w W : World} {xb p mb t : Nat} {v : Value} {T : List Tok} {cs : Array Value} (hb : Blk w xb t cs) (h : PR W w p mb v T) : ¬ xb = mb := by
  rintro rfl
  obtain ⟨n, D, hm, _⟩ := h.live.at_.map
  obtain ⟨es, clock, h1, _⟩ := hm
  have h2 : w.heap[xb]? = some _ := hb
  rw [h1] at h2
  cases h2
section
variable {W w w' : World} {p mb : Nat} {v : Value} {T T' : List Tok}
theorem PR.new (h : PR W w p mb v T) (hb : But (fun _ => False) w w') : PR W w' p mb v T := ⟨h.live.new hb, ownsRow_but h.row hb (fun _ _ h => h)⟩
/- The table has turned, the list hasn't. -/
theorem PR.kept (h : PR W w p mb v T) (hb : But (fun j => j = mb) w w') : w'.ownsRow W.heap.size 43 14 v T.length (rcl T) := by
  obtain ⟨n, D, hm, _⟩ := h.live.at_.map
  exact ownsRow_but h.row hb (fun j hj e => own_map_ne h.row hm j hj e)
theorem PR.shape (h : PR W w p mb v T) : ∃ a c, v = .slice a T.length c ∧ (a = none → T = [] ∧ c = 0) := by
  rcases h.row.2 with ⟨rfl, h0⟩ | ⟨g, cap, cur, rfl, _⟩
  · exact ⟨none, 0, by rw [h0], fun _ => ⟨List.eq_nil_of_length_eq_zero h0, rfl⟩⟩
  · exact ⟨_, cap, rfl, fun e => by cases e⟩
theorem place_any (h : PR W w p mb v T) (s : Nat) : Calls Try.prog 9 #[v, .int .u32 (s : Int)] w fun e w' => e = .returned (.tuple #[.int .i64 ((plc s T : Nat) : Int), .bool (look s T).isSome]) ∧ But (fun _ => False) w w' := by
  rcases h.row.2 with ⟨rfl, h0⟩ | ⟨g, cap, cur, rfl, _⟩
  · obtain rfl := List.eq_nil_of_length_eq_zero h0
    refine (place_none s w).mono ?_
    rintro e w' ⟨rfl, rfl⟩
    exact ⟨rfl, But.refl _ w⟩
  · refine (place_some h.live.at_.good.ris h.row (by have := h.live.at_.good.len; omega) s).mono ?_
    rintro e w' ⟨rfl, k, rfl⟩
    exact ⟨rfl, (But.refl _ w).drewN k⟩
end
theorem rcl_one (l : List Tok) : ∀ u ∈ rcl l, u.oneCell' = true := by
  intro u hu
  obtain ⟨x, _, hx⟩ := List.mem_flatMap.1 hu
  exact rcells_one x u hx
theorem rcl_append (a b : List Tok) : rcl (a ++ b) = rcl a ++ rcl b := by simp [rcl]
theorem own_base {w : World} {base base' n size : Nat} {e : TypeId} {v : Value} {xs : List Value} (h : w.ownsRow base e size v n xs) (hb : base' ≤ base) : w.ownsRow base' e size v n xs := by
  refine ⟨h.1, ?_⟩
  rcases h.2 with h2 | ⟨g, cap, cur, hv, hg, r⟩
  · exact .inl h2
  · exact .inr ⟨g, cap, cur, hv, Nat.le_trans hb hg, r⟩
theorem own_form {w : World} {base n size : Nat} {e : TypeId} {v : Value} {xs : List Value} (h : w.ownsRow base e size v n xs) : ∃ a c, v = .slice a n c := by
  rcases h.2 with ⟨rfl, h0⟩ | ⟨g, cap, cur, rfl, _⟩
  · exact ⟨none, 0, by rw [h0]⟩
  · exact ⟨_, cap, rfl⟩
theorem deed_size : (Try.prog.info? 31).map (·.size) = some 4 := by kernel_rfl
theorem dcells_one (x : Deed) : ∀ v ∈ dcells x, v.oneCell' = true := by simp [dcells, Value.oneCell']
def dzero : Deed := ⟨0, 0, 0, 0⟩
theorem dcells_range {w : World} {g o i : Nat} {l : List Deed} (h : ∀ i (h : i < l.length), ∀ j u, (dcells l[i])[j]? = some u → w.cell? ⟨g, o + i * 4 + j, none⟩ = some u) (hi : i < l.length) : w.rangeAt g (o + i * 4) (dcells l[i]) := fun j v hv => h i hi j v hv
theorem range_but {F : Nat → Prop} {w w' : World} {g o : Nat} {vs : List Value} (h : w.rangeAt g o vs) (hb : But F w w') (hg : g < w.heap.size) (hF : ¬ F g) : w'.rangeAt g o vs := fun j v hv => by
  rw [hb.cell (p := ⟨g, o + j, none⟩) hg hF]; exact h j v hv
/- The law leaves at once: too many deeds. -/
set_option maxRecDepth 100000 in
set_option maxHeartbeats 1000000 in
theorem plays_away {W : World} {a : Option Addr} {n c : Nat} (x y : Int) (h : 300 < n) (hn : n ≤ 9223372036854775807) :
    Calls Try.prog 3 #[.slice a n c, .int .i64 x, .int .i64 y] W fun e w' => e = .returned (.bool true) ∧ But (fun _ => False) W w' := by
  have HU := Lib.hid (up_any W)
  have HN := Lib.hid rgt_new
  have h1 : (300 : Int) < (n : Int) := by omega
  clear h
  go_enter Try.func3, Try.ntmps3
  go_wp2_with fail
  refine HU.out.mono ?_
  rintro e w1 ⟨rfl, hB⟩
  have HB := Lib.hid hB
  clear hB
  go_wp2_with fail
  refine (HN.out w1).mono ?_
  rintro e w2 ⟨p, mb, rfl, hA, hl, hB⟩
  have HB := Lib.hid (HB.out.trans hB (fun _ _ h => h))
  clear hB hA hl
  go_wp2_with fail
  go_ret
  exact ⟨rfl, HB.out⟩
set_option maxRecDepth 100000 in
set_option maxHeartbeats 16000000 in
theorem plays_any {W : World} {a : Option Addr} {l : List Deed} {c : Nat} (hD : Deeds W a l) (hl : l.length ≤ 300) (x y : Int) :
    Calls Try.prog 3 #[.slice a l.length c, .int .i64 x, .int .i64 y] W fun e w' => e = .returned (.bool true) ∧ But (fun _ => False) W w' := by
  have HU := Lib.hid (up_any W)
  have HN := Lib.hid rgt_new
  have HD := Lib.hid hD
  have HW := Lib.hid (rgt_within x y)
  have HRW := Lib.hid (ref_within x y)
  obtain ⟨n, hn⟩ : ∃ n, n = l.length := ⟨_, rfl⟩
  rw [← hn] at hl ⊢
  have HNL := Lib.hid hn
  have h1 : ¬ (300 : Int) < (n : Int) := by omega
  clear hD hn
  go_enter Try.func3, Try.ntmps3
  go_wp2_with fail
  refine HU.out.mono ?_
  rintro e w1 ⟨rfl, hB⟩
  have HB := Lib.hid hB
  clear hB
  go_wp2_with fail
  refine (HN.out w1).mono ?_
  rintro e w2 ⟨p, mb, rfl, hA, hlw, hB⟩
  have HL := Lib.hid (show Live W w2 p mb [] from (show Live w1 w2 p mb [] from ⟨hA, hlw, hB⟩).more HB.out)
  clear hB hA hlw HB HU HN
  go_upto_region 5 with fail
  go_cut [46] from 47 to 164 (fun v wx => v = .bool false ∧ Live W wx p mb [])
  case first =>
    by_cases hy0 : 0 ≤ y
    · by_cases hy7 : y ≤ 7
      · obtain ⟨bb, hbb⟩ : ∃ bb, bb = within x y := ⟨_, rfl⟩
        rw [← hbb] at HW HRW
        clear hbb
        cases bb
        · go_wp2_with (first
            | (go_at_call 7; refine (HW.out _).mono ?_; rintro e w3 ⟨rfl, rfl⟩)
            | (go_at_call 8; refine (HRW.out ⟨hy0, hy7⟩ _).mono ?_; rintro e w3 ⟨rfl, rfl⟩))
          go_meet
          case rel => exact ⟨rfl, HL.out⟩
        · go_wp2_with (first
            | (go_at_call 7; refine (HW.out _).mono ?_; rintro e w3 ⟨rfl, rfl⟩)
            | (go_at_call 8; refine (HRW.out ⟨hy0, hy7⟩ _).mono ?_; rintro e w3 ⟨rfl, rfl⟩))
          go_meet
          case rel => exact ⟨rfl, HL.out⟩
      · go_wp2
        go_meet
        case rel => exact ⟨rfl, HL.out⟩
    · go_wp2
      go_meet
      case rel => exact ⟨rfl, HL.out⟩
  case rest =>
    obtain ⟨rfl, hL⟩ := hcut
    have HP0 := Lib.hid (show PR W wc p mb (.slice none 0 0) [] from ⟨hL, ⟨rfl, .inl ⟨rfl, rfl⟩⟩⟩)
    clear hL HL
    go_wp2_with fail
    go_loopw [9, 10] (fun v u wr => ∃ (i : Nat) (a1 : Option Addr) (c1 : Nat) (T : List Tok), i ≤ n ∧ u = .int .i64 (i : Int) ∧ v = .slice a1 T.length c1 ∧ PR W wr p mb v T) (fun _ u _ => n - (intOf u).toNat)
    case atStart => exact ⟨0, none, 0, [], by omega, rfl, rfl, HP0.out⟩
    case round =>
      obtain ⟨i, a1, c1, T, hi, rfl, rfl, hPR⟩ := hrel
      have HPR := Lib.hid hPR
      by_cases hlt : i < n
      · have hil : i < l.length := by rw [← HNL.out]; exact hlt
        obtain ⟨ga, o, ha, hga, hcl⟩ := HD.out.at_ (by omega)
        subst ha
        have hrg := range_but (dcells_range hcl hil) hPR.live.but hga (fun h => h)
        have hok := HD.out.is_ _ (List.getElem_mem hil)
        obtain ⟨d, hd⟩ : ∃ d, d = l[i] := ⟨_, rfl⟩
        rw [← hd] at hrg hok
        have HRG := Lib.hid hrg
        have HOK := Lib.hid hok
        have HBK := Lib.hid (show Blk ((wr.alloc (.cells (dcells dzero).toArray 31)).setCells wr.heap.size 0 (dcells d)) wr.heap.size 31 (dcells d).toArray from blk_set0 (Blk.new _ _ _) (by rw [dcells_length, dcells_length]))
        have HP2 := Lib.hid (show PR W ((wr.alloc (.cells (dcells dzero).toArray 31)).setCells wr.heap.size 0 (dcells d)) p mb (.slice a1 T.length c1) T from hPR.new ((((But.refl (fun k => k = wr.heap.size) wr).alloc _).trans' (but_setCells _ _ _ _)).mono (fun j hj e => by omega)))
        have HPK := Lib.hid (pick_any d.w hok.w.1 hok.w.2)
        have hT := hPR.live.at_.good.len
        obtain ⟨N, hNT⟩ : ∃ N, N = T.length := ⟨_, rfl⟩
        have HNT := Lib.hid hNT
        rw [← hNT] at hT HP2 ⊢
        clear hrg hok hd hcl hga hPR hil hNT
        obtain ⟨q, hq⟩ : ∃ q, q = plc d.s T := ⟨_, rfl⟩
        obtain ⟨b, hb⟩ : ∃ b, b = (look d.s T).isSome := ⟨_, rfl⟩
        have HQ := Lib.hid (And.intro hq hb)
        clear hq hb
        go_upto_if 67 with (first
          | (refine wpList_load_mid rfl 31 _ rfl ga (o + i * 4) rfl [.int .i64 d.w, .int .u32 (d.s : Int), .int .i64 d.r, .int .u64 (d.k : Int)] _ HRG.out Try.underlying31 rfl deed_size ?_)
          | (refine wpList_store_mid rfl 31 _ _ rfl wr.heap.size 0 (dcells d).toArray rfl rfl (blk_there0 (Blk.new wr 31 (dcells dzero).toArray) (by rw [dcells_length]; simp [dcells_length])) (by simp only [List.size_toArray, dcells_length]; exact deed_size) (all_oneCell_toArray (dcells_one d)) ?_
             change wpList _ _ _ _ _ ((wr.alloc (.cells (dcells dzero).toArray 31)).setCells wr.heap.size 0 (dcells d))
             obtain ⟨xb, hxb⟩ : ∃ xb, xb = wr.heap.size := ⟨_, rfl⟩
             rw [← hxb] at HBK HP2 ⊢
             clear hxb
             generalize (wr.alloc (.cells (dcells dzero).toArray 31)).setCells xb 0 (dcells d) = W2 at HBK HP2 ⊢
             have k1 : W2.cell? ⟨xb, 1, none⟩ = some (.int .u32 (d.s : Int)) := HBK.out.cell 1
             have HPL := Lib.hid (place_any (T := T) (v := .slice a1 N c1) HP2.out d.s)
             rw [← HQ.out.1, ← HQ.out.2] at HPL)
          | (go_at_call 9; refine HPL.out.mono ?_; rintro e W3 ⟨rfl, hB3⟩
             clear k1
             have HP3 := Lib.hid (HP2.out.new hB3)
             have HB3 := Lib.hid (HBK.out.but hB3 (fun h => h))
             clear hB3
             have k0 : W3.cell? ⟨xb, 0, none⟩ = some (.int .i64 d.w) := HB3.out.cell 0
             have k1 : W3.cell? ⟨xb, 1, none⟩ = some (.int .u32 (d.s : Int)) := HB3.out.cell 1
             have k2 : W3.cell? ⟨xb, 2, none⟩ = some (.int .i64 d.r) := HB3.out.cell 2
             have k3 : W3.cell? ⟨xb, 3, none⟩ = some (.int .u64 (d.k : Int)) := HB3.out.cell 3)
          | (go_at_call 10; refine (HPK.out _).mono ?_; rintro e w4 ⟨rfl, rfl⟩))
        go_cut [9] from 47 to 164 (fun v wx => ∃ a2 c2 T', v = .slice a2 T'.length c2 ∧ PR W wx p mb v T')
        case first =>
          have hrow3 : W3.ownsRow W.heap.size 43 14 (.slice a1 N c1) N (rcl T) := by have := HP3.out.row; rw [← HNT.out] at this; exact this
          have HROW := Lib.hid hrow3
          have hsz3 := HP3.out.live.but.size
          obtain ⟨i0, hi0, hz⟩ := Option.map_eq_some_iff.1 rec_info
          simp only [Prod.mk.injEq] at hz
          obtain ⟨hz0, hz1, hz2⟩ := hz
          clear hrow3
          by_cases hp2 : pickN d.w = 2
          · have hpi : ((pickN d.w : Nat) : Int) = 2 := by omega
            have hpb : (((pickN d.w : Nat) : Int) == 2) = true := by simp [hpi]
            have HR := Lib.hid (rgt_revoke HP3.out.live.at_ HOK.out.s)
            rw [← HQ.out.2] at HR
            clear hp2 hpi
            cases b
            · go_wp2_with (first
                | (go_at_call 11; refine HR.out.mono ?_; rintro e w5 ⟨rfl, hA, hB⟩
                   have HX := Lib.hid (And.intro hA hB)
                   clear hA hB))
              go_meet
              case rel =>
                have hl : look d.s T = none := by
                  have := HQ.out.2
                  cases h : look d.s T with
                  | none => rfl
                  | some z => rw [h] at this; cases this
                have h1 := HP3.out.live.turn HX.out.1 HX.out.2
                rw [del_none hl] at h1
                refine ⟨a1, c1, T, by rw [← HNT.out], h1, ?_⟩
                have := HP3.out.kept HX.out.2
                rw [← HNT.out] at this ⊢
                exact this
            · have hqN : q < N := by
                have h1 := (plc_look (s := d.s) HP3.out.live.at_.good.ris).1 (by rw [← HQ.out.2])
                rw [← HQ.out.1] at h1
                rw [HNT.out]
                exact h1.1
              obtain ⟨g, rfl, hnc, hcm⟩ : ∃ g, a1 = some ⟨g, 0, none⟩ ∧ N ≤ c1 ∧ c1 ≤ 9223372036854775807 := by
                rcases HROW.out.2 with ⟨_, h0⟩ | ⟨g, cap, cur, e, _, _, h3, h4, _⟩
                · omega
                · injection e with e e2 e3
                  subst e3
                  exact ⟨g, e, h3, by simpa [maxLen] using h4⟩
              by_cases hfull : c1 = q + 1
              · obtain rfl : N = q + 1 := by omega
                subst hfull
                have b1 : (q : Int) + 1 ≤ (q : Int) + 1 := by omega
                have b4 : (q : Int) ≤ 1000000 := by omega
                have b5 : (q : Int) ≤ (q : Int) + 1 := by omega
                clear hnc hcm hqN
                have q1 : IntKind.i64.wrap ((q : Int) + 1) = (q : Int) + 1 := IntWalk.i64_in _ (by omega)
                have q2 : 0 ≤ (q : Int) + 1 := by omega
                have q3 : ((q : Int) + 1).toNat = q + 1 := by omega
                as_aux_lemma =>
                  go_wp2_with (first
                    | (go_at_call 11; refine HR.out.mono ?_; rintro e w5 ⟨rfl, hA, hB⟩
                       have HX := Lib.hid (And.intro hA hB)
                       have HR5 := Lib.hid (show w5.ownsRow W.heap.size 43 14 (.slice (some ⟨g, 0, none⟩) (q + 1) (q + 1)) (q + 1) (rcl T) from by
                         have := HP3.out.kept hB
                         rw [← HNT.out] at this
                         exact this)
                       have hs5 := Nat.le_trans hsz3 hB.size
                       clear hA hB))
                  have HS1 := Lib.hid (show ∀ W', But (fun _ => False) w5 W' → Sees W' 14 (.slice (some ⟨g, 0, none⟩) q (q + 1)) q (rcl (T.take q)) from fun W' hb => by
                    have h9 := sees_part (ownsRow_but HR5.out hb (fun _ _ h => h)) (i := 0) (j := q) (by omega) (o := 0) (c := q + 1) (.inr (by omega))
                    rwa [List.drop_zero] at h9)
                  have hdN : T.drop (q + 1) = [] := List.drop_eq_nil_of_le (by have := HNT.out; omega)
                  have HS2 := Lib.hid (show ∀ W', But (fun _ => False) w5 W' → ∀ y, y = Value.slice (some ⟨g, 0, none⟩) 0 0 → Sees W' 14 y 0 (rcl (T.drop (q + 1))) from fun W' hb y e => by rw [e, hdN]; exact .inr ⟨_, _, rfl, rfl, fun j u hu => by simp [rcl] at hu⟩)
                  clear hdN
                  refine Late.region_goes (fun _ => True) (fun _ => false) (by kernel_rfl) ?_ (fun hH => ?_)
                  · trivial
                  refine Late.Goes.takeT (i := 1) (v := ?_) (by simp only [List.getElem?_toArray, List.getElem?_cons_succ, List.getElem?_cons_zero]; rfl) (by kernel_rfl) (by kernel_rfl) (by kernel_rfl) (by kernel_rfl) (by kernel_rfl) (by exact fun _ _ _ h => h) (Or.inl ⟨by rfl, ?_⟩) hH ?_
                  rotate_left
                  · (intro wy hSw; (try dsimp only at hSw); go_simp; try (with_reducible rfl))
                  try simp only [Act.put, List.setIfInBounds_toArray, List.set_cons_zero, List.set_cons_succ]
                  refine Late.Goes.takeT (i := 2) (v := ?_) (by simp only [List.getElem?_toArray, List.getElem?_cons_succ, List.getElem?_cons_zero]; rfl) (by kernel_rfl) (by kernel_rfl) (by kernel_rfl) (by kernel_rfl) (by kernel_rfl) (by exact fun _ _ _ h => h) (Or.inl ⟨by rfl, ?_⟩) hH ?_
                  rotate_left
                  · (intro wy hSw; (try dsimp only at hSw); go_simp; try (with_reducible rfl))
                  try simp only [Act.put, List.setIfInBounds_toArray, List.set_cons_zero, List.set_cons_succ]
                  refine Late.Goes.takeT (i := 3) (v := ?_) (by simp only [List.getElem?_toArray, List.getElem?_cons_succ, List.getElem?_cons_zero]; rfl) (by kernel_rfl) (by kernel_rfl) (by kernel_rfl) (by kernel_rfl) (by kernel_rfl) (by exact fun _ _ _ h => h) (Or.inl ⟨by rfl, ?_⟩) hH ?_
                  rotate_left
                  · (intro wy hSw; (try dsimp only at hSw); go_simp; try (with_reducible rfl))
                  try simp only [Act.put, List.setIfInBounds_toArray, List.set_cons_zero, List.set_cons_succ]
                  refine Late.Goes.takeT (i := 5) (v := ?_) (by simp only [List.getElem?_toArray, List.getElem?_cons_succ, List.getElem?_cons_zero]; rfl) (by kernel_rfl) (by kernel_rfl) (by kernel_rfl) (by kernel_rfl) (by kernel_rfl) (by exact fun _ _ _ h => h) (Or.inl ⟨by rfl, ?_⟩) hH ?_
                  rotate_left
                  · (intro wy hSw; (try dsimp only at hSw); go_simp; try (with_reducible rfl))
                  try simp only [Act.put, List.setIfInBounds_toArray, List.set_cons_zero, List.set_cons_succ]
                  refine Late.Goes.takeT (i := 6) (v := ?_) (by simp only [List.getElem?_toArray, List.getElem?_cons_succ, List.getElem?_cons_zero]; rfl) (by kernel_rfl) (by kernel_rfl) (by kernel_rfl) (by kernel_rfl) (by kernel_rfl) (by exact fun _ _ _ h => h) (Or.inl ⟨by rfl, ?_⟩) hH ?_
                  rotate_left
                  · (intro wy hSw; (try dsimp only at hSw); go_simp; try (with_reducible rfl))
                  try simp only [Act.put, List.setIfInBounds_toArray, List.set_cons_zero, List.set_cons_succ]
                  refine Late.Goes.takeT (i := 7) (v := ?_) (by simp only [List.getElem?_toArray, List.getElem?_cons_succ, List.getElem?_cons_zero]; rfl) (by kernel_rfl) (by kernel_rfl) (by kernel_rfl) (by kernel_rfl) (by kernel_rfl) (by exact fun _ _ _ h => h) (Or.inl ⟨by rfl, ?_⟩) hH ?_
                  rotate_left
                  · (intro wy hSw; (try dsimp only at hSw); go_simp; try (with_reducible rfl))
                  try simp only [Act.put, List.setIfInBounds_toArray, List.set_cons_zero, List.set_cons_succ]
                  refine Late.Goes.takeT (i := 8) (v := ?_) (by simp only [List.getElem?_toArray, List.getElem?_cons_succ, List.getElem?_cons_zero]; rfl) (by kernel_rfl) (by kernel_rfl) (by kernel_rfl) (by kernel_rfl) (by kernel_rfl) (by exact fun _ _ _ h => h) (Or.inl ⟨by rfl, ?_⟩) hH ?_
                  rotate_left
                  · (intro wy hSw; (try dsimp only at hSw); go_simp; try (with_reducible rfl))
                  try simp only [Act.put, List.setIfInBounds_toArray, List.set_cons_zero, List.set_cons_succ]
                  clear q1 q2 q3
                  refine Late.Goes.one (i := 0) (by kernel_rfl) (by simp only [List.getElem?_toArray, List.getElem?_cons_succ, List.getElem?_cons_zero]; rfl) (fun K hK => ?_)
                  clear hH
                  go_simp
                  refine hK.out _ _ ?_ (fun hH => ?_)
                  · exact fun _ => trivial
                  clear hK K
                  have hH := hH rfl
                  try simp only [Act.put, List.setIfInBounds_toArray, List.set_cons_zero, List.set_cons_succ]
                  refine Late.Goes.one (i := 4) (by kernel_rfl) (by simp only [List.getElem?_toArray, List.getElem?_cons_succ, List.getElem?_cons_zero]; rfl) (fun K hK => ?_)
                  clear hH
                  refine step_append_onto rfl (.tmp 75) (.tmp 78) _ rfl w5.heap.size 43 i0 _ 14 128 Try.underlying27 hi0 hz0 hz1 hz2 rfl (by omega) (.slice (some ⟨w5.drew.heap.size, 0, none⟩) 0 0) 0 [] rfl (World.ownsRow_made (base := w5.heap.size) (e := 43) (size := 14) w5.drew #[] 0 (Nat.le_refl _) (by simp) (by simp)) (.slice (some ⟨g, 0, none⟩) q (q + 1)) q (rcl (T.take q)) rfl (HS1.out _ ((But.refl _ w5).drew.alloc _)) (rcl_one _) (by simp only [maxLen]; omega) (by omega) (by simp) ?_
                  intro v6 w6 ho6 hon6
                  have hb6 : But (fun _ => False) w5 w6 := ((But.refl _ w5).drew.alloc _).trans hon6.but (fun i hi e => by
                    have e2 : i = w5.drew.heap.size := Option.some.inj (show some i = some w5.drew.heap.size from e)
                    have e3 : w5.drew.heap.size = w5.heap.size := rfl
                    omega)
                  rw [List.nil_append, Nat.zero_add] at ho6
                  have HO6 := Lib.hid ho6
                  have HB6 := Lib.hid hb6
                  clear ho6 hb6 hon6
                  refine hK.out _ _ ?_ (fun hH => ?_)
                  · exact fun _ => trivial
                  clear hK K
                  have hH := hH rfl
                  try simp only [Act.put, List.setIfInBounds_toArray, List.set_cons_zero, List.set_cons_succ]
                  refine Late.Goes.one (i := 9) (by kernel_rfl) (by simp only [List.getElem?_toArray, List.getElem?_cons_succ, List.getElem?_cons_zero]; rfl) (fun K hK => ?_)
                  clear hH
                  refine step_append_onto rfl (.tmp 79) (.tmp 83) _ rfl w5.heap.size 43 i0 _ 14 128 Try.underlying27 hi0 hz0 hz1 hz2 rfl (by omega) v6 q (rcl (T.take q)) rfl HO6.out _ 0 (rcl (T.drop (q + 1))) rfl (HS2.out _ HB6.out _ (by simp [Act.eval])) (rcl_one _) (by simp only [maxLen]; omega) (by omega) HB6.out.size ?_
                  intro v7 w7 ho7 hon7
                  have hb7 : But (fun _ => False) w5 w7 := HB6.out.trans hon7.but (fun i hi e => by have := (HO6.out.lt i e.symm).1; omega)
                  rw [← rcl_append] at ho7
                  obtain ⟨a7, c7, rfl⟩ := own_form ho7
                  have HO7 := Lib.hid ho7
                  have HB7 := Lib.hid hb7
                  clear ho7 hb7 hon7
                  refine hK.out _ _ ?_ (fun hH => ?_)
                  · exact fun _ => trivial
                  clear hK K
                  have hH := hH rfl
                  try simp only [Act.put, List.setIfInBounds_toArray, List.set_cons_zero, List.set_cons_succ]
                  refine Late.Goes.one (i := 10) (by kernel_rfl) (by simp only [List.getElem?_toArray, List.getElem?_cons_succ, List.getElem?_cons_zero]; rfl) (fun K hK => ?_)
                  clear hH
                  go_simp
                  refine hK.out _ _ ?_ (fun hH => ?_)
                  · exact fun _ => trivial
                  clear hK K
                  have hH := hH rfl
                  try simp only [Act.put, List.setIfInBounds_toArray, List.set_cons_zero, List.set_cons_succ]
                  refine Late.Goes.done (by kernel_rfl) ?_ _
                  go_wp2
                  go_meet
                  case rel =>
                    have hd := del_plc HP3.out.live.at_.good.ris (by rw [← HQ.out.2])
                    rw [← HQ.out.1] at hd
                    have h9 := own_base HO7.out hs5
                    rw [hd] at h9
                    have hl9 : q + 0 = (del d.s T).length := by
                      rw [← hd, List.length_append, List.length_take, List.length_drop, ← HNT.out]; omega
                    rw [hl9] at h9
                    have hl10 : q = (del d.s T).length := by rw [← hl9]; rfl
                    rw [hl10]
                    exact ⟨a7, c7, del d.s T, rfl, (HP3.out.live.turn HX.out.1 HX.out.2).new HB7.out, h9⟩
              · have b1 : (q : Int) + 1 ≤ (N : Int) := by omega
                have b2 : (N : Int) ≤ (c1 : Int) := by omega
                have b3 : (q : Int) ≤ (c1 : Int) := by omega
                have b5 : (q : Int) ≤ (N : Int) := by omega
                have q1 : IntKind.i64.wrap ((q : Int) + 1) = (q : Int) + 1 := IntWalk.i64_in _ (by omega)
                have q2 : 0 ≤ (q : Int) + 1 := by omega
                have q3 : ((q : Int) + 1).toNat = q + 1 := by omega
                as_aux_lemma =>
                  go_wp2_with (first
                    | (go_at_call 11; refine HR.out.mono ?_; rintro e w5 ⟨rfl, hA, hB⟩
                       have HX := Lib.hid (And.intro hA hB)
                       have HR5 := Lib.hid (show w5.ownsRow W.heap.size 43 14 (.slice (some ⟨g, 0, none⟩) N c1) N (rcl T) from by
                         have := HP3.out.kept hB
                         rw [← HNT.out] at this
                         exact this)
                       have hs5 := Nat.le_trans hsz3 hB.size
                       clear hA hB))
                  have HS1 := Lib.hid (show ∀ W', But (fun _ => False) w5 W' → Sees W' 14 (.slice (some ⟨g, 0, none⟩) q c1) q (rcl (T.take q)) from fun W' hb => by
                    have h9 := sees_part (ownsRow_but HR5.out hb (fun _ _ h => h)) (i := 0) (j := q) (by omega) (o := 0) (c := c1) (.inr (by omega))
                    rwa [List.drop_zero] at h9)
                  have HS2 := Lib.hid (show ∀ W', But (fun _ => False) w5 W' → ∀ y, y = Value.slice (some ⟨g, (q + 1) * 14, none⟩) (N - (q + 1)) (c1 - (q + 1)) → Sees W' 14 y (N - (q + 1)) (rcl (T.drop (q + 1))) from fun W' hb y e => by
                    rw [e]
                    have h9 := sees_part (ownsRow_but HR5.out hb (fun _ _ h => h)) (i := q + 1) (j := N - (q + 1)) (by omega) (o := (q + 1) * 14) (c := c1 - (q + 1)) (.inr rfl)
                    rwa [List.take_of_length_le (by rw [List.length_drop, ← HNT.out]; omega)] at h9)
                  refine Late.region_goes (fun _ => True) (fun _ => false) (by kernel_rfl) ?_ (fun hH => ?_)
                  · trivial
                  refine Late.Goes.takeT (i := 1) (v := ?_) (by simp only [List.getElem?_toArray, List.getElem?_cons_succ, List.getElem?_cons_zero]; rfl) (by kernel_rfl) (by kernel_rfl) (by kernel_rfl) (by kernel_rfl) (by kernel_rfl) (by exact fun _ _ _ h => h) (Or.inl ⟨by rfl, ?_⟩) hH ?_
                  rotate_left
                  · (intro wy hSw; (try dsimp only at hSw); go_simp; try (with_reducible rfl))
                  try simp only [Act.put, List.setIfInBounds_toArray, List.set_cons_zero, List.set_cons_succ]
                  refine Late.Goes.takeT (i := 2) (v := ?_) (by simp only [List.getElem?_toArray, List.getElem?_cons_succ, List.getElem?_cons_zero]; rfl) (by kernel_rfl) (by kernel_rfl) (by kernel_rfl) (by kernel_rfl) (by kernel_rfl) (by exact fun _ _ _ h => h) (Or.inl ⟨by rfl, ?_⟩) hH ?_
                  rotate_left
                  · (intro wy hSw; (try dsimp only at hSw); go_simp; try (with_reducible rfl))
                  try simp only [Act.put, List.setIfInBounds_toArray, List.set_cons_zero, List.set_cons_succ]
                  refine Late.Goes.takeT (i := 3) (v := ?_) (by simp only [List.getElem?_toArray, List.getElem?_cons_succ, List.getElem?_cons_zero]; rfl) (by kernel_rfl) (by kernel_rfl) (by kernel_rfl) (by kernel_rfl) (by kernel_rfl) (by exact fun _ _ _ h => h) (Or.inl ⟨by rfl, ?_⟩) hH ?_
                  rotate_left
                  · (intro wy hSw; (try dsimp only at hSw); go_simp; try (with_reducible rfl))
                  try simp only [Act.put, List.setIfInBounds_toArray, List.set_cons_zero, List.set_cons_succ]
                  refine Late.Goes.takeT (i := 5) (v := ?_) (by simp only [List.getElem?_toArray, List.getElem?_cons_succ, List.getElem?_cons_zero]; rfl) (by kernel_rfl) (by kernel_rfl) (by kernel_rfl) (by kernel_rfl) (by kernel_rfl) (by exact fun _ _ _ h => h) (Or.inl ⟨by rfl, ?_⟩) hH ?_
                  rotate_left
                  · (intro wy hSw; (try dsimp only at hSw); go_simp; try (with_reducible rfl))
                  try simp only [Act.put, List.setIfInBounds_toArray, List.set_cons_zero, List.set_cons_succ]
                  refine Late.Goes.takeT (i := 6) (v := ?_) (by simp only [List.getElem?_toArray, List.getElem?_cons_succ, List.getElem?_cons_zero]; rfl) (by kernel_rfl) (by kernel_rfl) (by kernel_rfl) (by kernel_rfl) (by kernel_rfl) (by exact fun _ _ _ h => h) (Or.inl ⟨by rfl, ?_⟩) hH ?_
                  rotate_left
                  · (intro wy hSw; (try dsimp only at hSw); go_simp; try (with_reducible rfl))
                  try simp only [Act.put, List.setIfInBounds_toArray, List.set_cons_zero, List.set_cons_succ]
                  refine Late.Goes.takeT (i := 7) (v := ?_) (by simp only [List.getElem?_toArray, List.getElem?_cons_succ, List.getElem?_cons_zero]; rfl) (by kernel_rfl) (by kernel_rfl) (by kernel_rfl) (by kernel_rfl) (by kernel_rfl) (by exact fun _ _ _ h => h) (Or.inl ⟨by rfl, ?_⟩) hH ?_
                  rotate_left
                  · (intro wy hSw; (try dsimp only at hSw); go_simp; try (with_reducible rfl))
                  try simp only [Act.put, List.setIfInBounds_toArray, List.set_cons_zero, List.set_cons_succ]
                  refine Late.Goes.takeT (i := 8) (v := ?_) (by simp only [List.getElem?_toArray, List.getElem?_cons_succ, List.getElem?_cons_zero]; rfl) (by kernel_rfl) (by kernel_rfl) (by kernel_rfl) (by kernel_rfl) (by kernel_rfl) (by exact fun _ _ _ h => h) (Or.inl ⟨by rfl, ?_⟩) hH ?_
                  rotate_left
                  · (intro wy hSw; (try dsimp only at hSw); go_simp; try (with_reducible rfl))
                  try simp only [Act.put, List.setIfInBounds_toArray, List.set_cons_zero, List.set_cons_succ]
                  clear q1 q2 q3
                  refine Late.Goes.one (i := 0) (by kernel_rfl) (by simp only [List.getElem?_toArray, List.getElem?_cons_succ, List.getElem?_cons_zero]; rfl) (fun K hK => ?_)
                  clear hH
                  go_simp
                  refine hK.out _ _ ?_ (fun hH => ?_)
                  · exact fun _ => trivial
                  clear hK K
                  have hH := hH rfl
                  try simp only [Act.put, List.setIfInBounds_toArray, List.set_cons_zero, List.set_cons_succ]
                  refine Late.Goes.one (i := 4) (by kernel_rfl) (by simp only [List.getElem?_toArray, List.getElem?_cons_succ, List.getElem?_cons_zero]; rfl) (fun K hK => ?_)
                  clear hH
                  refine step_append_onto rfl (.tmp 75) (.tmp 78) _ rfl w5.heap.size 43 i0 _ 14 128 Try.underlying27 hi0 hz0 hz1 hz2 rfl (by omega) (.slice (some ⟨w5.drew.heap.size, 0, none⟩) 0 0) 0 [] rfl (World.ownsRow_made (base := w5.heap.size) (e := 43) (size := 14) w5.drew #[] 0 (Nat.le_refl _) (by simp) (by simp)) (.slice (some ⟨g, 0, none⟩) q c1) q (rcl (T.take q)) rfl (HS1.out _ ((But.refl _ w5).drew.alloc _)) (rcl_one _) (by simp only [maxLen]; omega) (by omega) (by simp) ?_
                  intro v6 w6 ho6 hon6
                  have hb6 : But (fun _ => False) w5 w6 := ((But.refl _ w5).drew.alloc _).trans hon6.but (fun i hi e => by
                    have e2 : i = w5.drew.heap.size := Option.some.inj (show some i = some w5.drew.heap.size from e)
                    have e3 : w5.drew.heap.size = w5.heap.size := rfl
                    omega)
                  rw [List.nil_append, Nat.zero_add] at ho6
                  have HO6 := Lib.hid ho6
                  have HB6 := Lib.hid hb6
                  clear ho6 hb6 hon6
                  refine hK.out _ _ ?_ (fun hH => ?_)
                  · exact fun _ => trivial
                  clear hK K
                  have hH := hH rfl
                  try simp only [Act.put, List.setIfInBounds_toArray, List.set_cons_zero, List.set_cons_succ]
                  refine Late.Goes.one (i := 9) (by kernel_rfl) (by simp only [List.getElem?_toArray, List.getElem?_cons_succ, List.getElem?_cons_zero]; rfl) (fun K hK => ?_)
                  clear hH
                  refine step_append_onto rfl (.tmp 79) (.tmp 83) _ rfl w5.heap.size 43 i0 _ 14 128 Try.underlying27 hi0 hz0 hz1 hz2 rfl (by omega) v6 q (rcl (T.take q)) rfl HO6.out _ (N - (q + 1)) (rcl (T.drop (q + 1))) rfl (HS2.out _ HB6.out _ (by simp [Act.eval])) (rcl_one _) (by simp only [maxLen]; omega) (by omega) HB6.out.size ?_
                  intro v7 w7 ho7 hon7
                  have hb7 : But (fun _ => False) w5 w7 := HB6.out.trans hon7.but (fun i hi e => by have := (HO6.out.lt i e.symm).1; omega)
                  rw [← rcl_append] at ho7
                  obtain ⟨a7, c7, rfl⟩ := own_form ho7
                  have HO7 := Lib.hid ho7
                  have HB7 := Lib.hid hb7
                  clear ho7 hb7 hon7
                  refine hK.out _ _ ?_ (fun hH => ?_)
                  · exact fun _ => trivial
                  clear hK K
                  have hH := hH rfl
                  try simp only [Act.put, List.setIfInBounds_toArray, List.set_cons_zero, List.set_cons_succ]
                  refine Late.Goes.one (i := 10) (by kernel_rfl) (by simp only [List.getElem?_toArray, List.getElem?_cons_succ, List.getElem?_cons_zero]; rfl) (fun K hK => ?_)
                  clear hH
                  go_simp
                  refine hK.out _ _ ?_ (fun hH => ?_)
                  · exact fun _ => trivial
                  clear hK K
                  have hH := hH rfl
                  try simp only [Act.put, List.setIfInBounds_toArray, List.set_cons_zero, List.set_cons_succ]
                  refine Late.Goes.done (by kernel_rfl) ?_ _
                  go_wp2
                  go_meet
                  case rel =>
                    have hd := del_plc HP3.out.live.at_.good.ris (by rw [← HQ.out.2])
                    rw [← HQ.out.1] at hd
                    have h9 := own_base HO7.out hs5
                    rw [hd] at h9
                    have hl9 : q + (N - (q + 1)) = (del d.s T).length := by
                      rw [← hd, List.length_append, List.length_take, List.length_drop, ← HNT.out]; omega
                    rw [hl9] at h9 ⊢
                    exact ⟨a7, c7, del d.s T, rfl, (HP3.out.live.turn HX.out.1 HX.out.2).new HB7.out, h9⟩
          · have hpi : ((pickN d.w : Nat) : Int) ≠ 2 := by omega
            have hpb : (((pickN d.w : Nat) : Int) == 2) = false := by simp [hpi]
            have HR := Lib.hid (rgt_put HP3.out.live.at_ HOK.out.s HOK.out.k d.r)
            obtain ⟨pe, hpe⟩ : ∃ pe, pe = putErr d.s d.r T := ⟨_, rfl⟩
            obtain ⟨T', hT'⟩ : ∃ T', T' = putTo ⟨d.s, d.r, d.k⟩ T := ⟨_, rfl⟩
            rw [← hpe, ← hT'] at HR
            have HPE := Lib.hid hpe
            have HT' := Lib.hid hT'
            have hc0 : 0 ≤ pe ∧ pe ≤ 15 := by rw [hpe]; unfold putErr; (repeat' split) <;> omega
            have HC := Lib.hid (code_any pe hc0.1 hc0.2)
            obtain ⟨ev, hev⟩ : ∃ ev, ev = errV pe := ⟨_, rfl⟩
            rw [← hev] at HR HC
            clear hp2 hpi hpe hT' hc0 hev
            by_cases hr1 : d.r < 1
            · obtain rfl : pe = 1 := by rw [HPE.out]; exact (by rw [putErr, if_pos (.inl (by assumption))])
              obtain rfl : T = T' := by rw [HT'.out, putTo, if_neg (by rw [show putErr d.s d.r T = 1 from (by rw [putErr, if_pos (.inl (by assumption))])]; decide)]
              cases b
              · by_cases h100 : (100 : Int) ≤ (N : Int)
                · as_aux_lemma =>
                    go_wp2_with (first
                      | (go_at_call 13; refine HR.out.mono ?_; rintro e w5 ⟨rfl, hA, hB⟩
                         have HX := Lib.hid (And.intro hA hB)
                         clear hA hB)
                      | (go_at_call 12; refine (HC.out _).mono ?_; rintro e w6 ⟨rfl, rfl⟩))
                    go_meet
                    case rel =>
                      refine ⟨a1, c1, T, by rw [← HNT.out], HP3.out.live.turn HX.out.1 HX.out.2, ?_⟩
                      have := HP3.out.kept HX.out.2
                      rw [← HNT.out] at this ⊢
                      exact this
                · as_aux_lemma =>
                    go_wp2_with (first
                      | (go_at_call 13; refine HR.out.mono ?_; rintro e w5 ⟨rfl, hA, hB⟩
                         have HX := Lib.hid (And.intro hA hB)
                         clear hA hB)
                      | (go_at_call 12; refine (HC.out _).mono ?_; rintro e w6 ⟨rfl, rfl⟩))
                    go_meet
                    case rel =>
                      refine ⟨a1, c1, T, by rw [← HNT.out], HP3.out.live.turn HX.out.1 HX.out.2, ?_⟩
                      have := HP3.out.kept HX.out.2
                      rw [← HNT.out] at this ⊢
                      exact this
              · as_aux_lemma =>
                  go_wp2_with (first
                    | (go_at_call 13; refine HR.out.mono ?_; rintro e w5 ⟨rfl, hA, hB⟩
                       have HX := Lib.hid (And.intro hA hB)
                       clear hA hB)
                    | (go_at_call 12; refine (HC.out _).mono ?_; rintro e w6 ⟨rfl, rfl⟩))
                  go_meet
                  case rel =>
                    refine ⟨a1, c1, T, by rw [← HNT.out], HP3.out.live.turn HX.out.1 HX.out.2, ?_⟩
                    have := HP3.out.kept HX.out.2
                    rw [← HNT.out] at this ⊢
                    exact this
            · by_cases hr7 : 7 < d.r
              · obtain rfl : pe = 1 := by rw [HPE.out]; exact (by rw [putErr, if_pos (.inr (by assumption))])
                obtain rfl : T = T' := by rw [HT'.out, putTo, if_neg (by rw [show putErr d.s d.r T = 1 from (by rw [putErr, if_pos (.inr (by assumption))])]; decide)]
                cases b
                · by_cases h100 : (100 : Int) ≤ (N : Int)
                  · as_aux_lemma =>
                      go_wp2_with (first
                        | (go_at_call 13; refine HR.out.mono ?_; rintro e w5 ⟨rfl, hA, hB⟩
                           have HX := Lib.hid (And.intro hA hB)
                           clear hA hB)
                        | (go_at_call 12; refine (HC.out _).mono ?_; rintro e w6 ⟨rfl, rfl⟩))
                      go_meet
                      case rel =>
                        refine ⟨a1, c1, T, by rw [← HNT.out], HP3.out.live.turn HX.out.1 HX.out.2, ?_⟩
                        have := HP3.out.kept HX.out.2
                        rw [← HNT.out] at this ⊢
                        exact this
                  · as_aux_lemma =>
                      go_wp2_with (first
                        | (go_at_call 13; refine HR.out.mono ?_; rintro e w5 ⟨rfl, hA, hB⟩
                           have HX := Lib.hid (And.intro hA hB)
                           clear hA hB)
                        | (go_at_call 12; refine (HC.out _).mono ?_; rintro e w6 ⟨rfl, rfl⟩))
                      go_meet
                      case rel =>
                        refine ⟨a1, c1, T, by rw [← HNT.out], HP3.out.live.turn HX.out.1 HX.out.2, ?_⟩
                        have := HP3.out.kept HX.out.2
                        rw [← HNT.out] at this ⊢
                        exact this
                · as_aux_lemma =>
                    go_wp2_with (first
                      | (go_at_call 13; refine HR.out.mono ?_; rintro e w5 ⟨rfl, hA, hB⟩
                         have HX := Lib.hid (And.intro hA hB)
                         clear hA hB)
                      | (go_at_call 12; refine (HC.out _).mono ?_; rintro e w6 ⟨rfl, rfl⟩))
                    go_meet
                    case rel =>
                      refine ⟨a1, c1, T, by rw [← HNT.out], HP3.out.live.turn HX.out.1 HX.out.2, ?_⟩
                      have := HP3.out.kept HX.out.2
                      rw [← HNT.out] at this ⊢
                      exact this
              · cases b
                · have hl : look d.s T = none := by
                    have := HQ.out.2
                    cases h : look d.s T with
                    | none => rfl
                    | some z => rw [h] at this; cases this
                  have HLK := Lib.hid hl
                  clear hl
                  by_cases h100 : (100 : Int) ≤ (N : Int)
                  · obtain rfl : pe = 13 := by rw [HPE.out]; exact (by rw [putErr, if_neg (by omega), if_pos ⟨HLK.out, by have := HNT.out; omega⟩])
                    obtain rfl : T = T' := by rw [HT'.out, putTo, if_neg (by rw [show putErr d.s d.r T = 13 from (by rw [putErr, if_neg (by omega), if_pos ⟨HLK.out, by have := HNT.out; omega⟩])]; decide)]
                    as_aux_lemma =>
                      go_wp2_with (first
                        | (go_at_call 13; refine HR.out.mono ?_; rintro e w5 ⟨rfl, hA, hB⟩
                           have HX := Lib.hid (And.intro hA hB)
                           clear hA hB)
                        | (go_at_call 12; refine (HC.out _).mono ?_; rintro e w6 ⟨rfl, rfl⟩))
                      go_meet
                      case rel =>
                        refine ⟨a1, c1, T, by rw [← HNT.out], HP3.out.live.turn HX.out.1 HX.out.2, ?_⟩
                        have := HP3.out.kept HX.out.2
                        rw [← HNT.out] at this ⊢
                        exact this
                  · obtain rfl : pe = 0 := by rw [HPE.out]; exact (by rw [putErr, if_neg (by omega), if_neg (fun h => by have := h.2; have := HNT.out; omega)])
                    obtain rfl : T' = put ⟨d.s, d.r, d.k⟩ T := by rw [HT'.out, putTo, if_pos (show putErr d.s d.r T = 0 from (by rw [putErr, if_neg (by omega), if_neg (fun h => by have := h.2; have := HNT.out; omega)]))]
                    have hqN : q ≤ N := by rw [HQ.out.1, HNT.out]; exact plc_le _ _
                    by_cases hsome : a1 = none
                    · subst hsome
                      obtain ⟨rfl, rfl⟩ : N = 0 ∧ c1 = 0 := by
                        rcases HROW.out.2 with ⟨e, h0⟩ | ⟨g, cap, cur, e, _⟩
                        · injection e with e e2 e3
                          exact ⟨h0, by omega⟩
                        · cases e
                      obtain rfl : T = [] := List.eq_nil_of_length_eq_zero HNT.out.symm
                      obtain rfl : q = 0 := HQ.out.1
                      go_wp2_with (first
                        | (go_at_call 13; refine HR.out.mono ?_; rintro e w5 ⟨rfl, hA, hB⟩
                           have HX := Lib.hid (And.intro hA hB)
                           have HR5 := Lib.hid (show w5.ownsRow W.heap.size 43 14 (.slice none (0) (0)) (0) (rcl ([] : List Tok)) from by
                             have := HP3.out.kept hB
                             rw [← HNT.out] at this
                             exact this)
                           have hs5 := Nat.le_trans hsz3 hB.size
                           have HB5 := Lib.hid (HB3.out.but hB (blk_map_ne HB3.out HP3.out))
                           clear hA hB)
                        | (go_at_call 12; refine (HC.out _).mono ?_; rintro e w6 ⟨rfl, rfl⟩
                           have HS1 := Lib.hid (show ∀ W', But (fun _ => False) w5 W' → Sees W' 14 (.slice none 0 0) 0 (rcl ([] : List Tok)) from fun W' hb => .inl ⟨rfl, rfl, rfl⟩)
                           have HS2 := HS1)
                        | (at_builtin; refine wpList_append_onto rfl (.tmp 113) (.tmp 116) _ rfl w5.heap.size 43 i0 _ 14 128 Try.underlying27 hi0 hz0 hz1 hz2 rfl (by omega) (.slice (some ⟨w5.heap.size, 0, none⟩) 0 0) 0 [] rfl (World.ownsRow_made (base := w5.heap.size) (e := 43) (size := 14) w5 #[] 0 (Nat.le_refl _) (by simp) (by simp)) (.slice none 0 0) 0 (rcl ([] : List Tok)) rfl (HS1.out _ ((But.refl _ w5).alloc _)) (rcl_one _) (by simp only [maxLen]; omega) (by omega) (by simp) ?_
                           intro v6 w6 ho6 hon6
                           have hb6 : But (fun _ => False) w5 w6 := ((But.refl _ w5).alloc _).trans hon6.but (fun i hi e => by
                             have e2 : i = w5.heap.size := Option.some.inj (show some i = some w5.heap.size from e)
                             omega)
                           rw [List.nil_append, Nat.zero_add] at ho6
                           have HO6 := Lib.hid ho6
                           have HB6 := Lib.hid hb6
                           have m1 : w6.cell? ⟨xb, 1, none⟩ = some (.int .u32 (d.s : Int)) := (HB5.out.but hb6 (fun h => h)).cell 1
                           have m2 : w6.cell? ⟨xb, 2, none⟩ = some (.int .i64 d.r) := (HB5.out.but hb6 (fun h => h)).cell 2
                           have m3 : w6.cell? ⟨xb, 3, none⟩ = some (.int .u64 (d.k : Int)) := (HB5.out.but hb6 (fun h => h)).cell 3
                           clear ho6 hb6 hon6)
                        | (at_builtin; refine wpList_append_onto rfl (.tmp 118) (.tmp 126) _ rfl w5.heap.size 43 i0 _ 14 128 Try.underlying27 hi0 hz0 hz1 hz2 rfl (by omega) v6 0 (rcl ([] : List Tok)) rfl (ownsRow_alloc HO6.out _) (.slice (some ⟨w6.heap.size, 0, none⟩) 1 1) 1 (rcells (⟨d.s, d.r, d.k⟩ : Tok)) rfl (sees_rec _ (⟨d.s, d.r, d.k⟩ : Tok) _ _ _ (by simp)) (rcells_one _) (by simp only [maxLen]; omega) (by omega) (by have := HB6.out.size; simp; omega) ?_
                           intro v7 w7 ho7 hon7
                           have hb7 : But (fun _ => False) w5 w7 := (HB6.out.alloc _).trans hon7.but (fun i hi e => by have := (HO6.out.lt i e.symm).1; omega)
                           have HO7 := Lib.hid ho7
                           have HB7 := Lib.hid hb7
                           clear ho7 hb7 hon7 m1 m2 m3)
                        | (at_builtin; refine wpList_append_onto rfl (.tmp 131) (.tmp 134) _ rfl w5.heap.size 43 i0 _ 14 128 Try.underlying27 hi0 hz0 hz1 hz2 rfl (by omega) v7 (0 + 1) ((rcl ([] : List Tok)) ++ rcells (⟨d.s, d.r, d.k⟩ : Tok)) rfl HO7.out (.slice none 0 0) (0) (rcl ([] : List Tok)) rfl (HS2.out _ HB7.out) (rcl_one _) (by simp only [maxLen]; omega) (by omega) HB7.out.size ?_
                           intro v8 w8 ho8 hon8
                           have hb8 : But (fun _ => False) w5 w8 := HB7.out.trans hon8.but (fun i hi e => by have := (HO7.out.lt i e.symm).1; omega)
                           obtain ⟨l8, hl8⟩ : ∃ l8, l8 = (rcl ([] : List Tok)) ++ rcells (⟨d.s, d.r, d.k⟩ : Tok) ++ (rcl ([] : List Tok)) := ⟨_, rfl⟩
                           rw [← hl8] at ho8
                           obtain ⟨n8, hn8⟩ : ∃ n8, n8 = 0 + 1 + (0) := ⟨_, rfl⟩
                           rw [← hn8] at ho8
                           obtain ⟨a8, c8, rfl⟩ := own_form ho8
                           have HO8 := Lib.hid ho8
                           have HB8 := Lib.hid hb8
                           have HN8 := Lib.hid hn8
                           have HL8 := Lib.hid hl8
                           clear ho8 hb8 hon8 hn8 hl8))
                      go_meet
                      case rel =>
                        have hd : ([] : List Tok).take 0 ++ [(⟨d.s, d.r, d.k⟩ : Tok)] ++ ([] : List Tok).drop 0 = put (⟨d.s, d.r, d.k⟩ : Tok) ([] : List Tok) := by
                          have h := put_plc (x := (⟨d.s, d.r, d.k⟩ : Tok)) HP3.out.live.at_.good.ris
                          dsimp only at h
    
                          exact h
                        have h9 := own_base HO8.out hs5
                        have hr9 : (rcl ([] : List Tok)) ++ rcells (⟨d.s, d.r, d.k⟩ : Tok) ++ (rcl ([] : List Tok)) = rcl (put (⟨d.s, d.r, d.k⟩ : Tok) ([] : List Tok)) := by
                          rw [← hd, rcl_append, rcl_append]
                          simp [rcl]
                        have hl9 : n8 = (put (⟨d.s, d.r, d.k⟩ : Tok) ([] : List Tok)).length := by
                          rw [HN8.out, ← hd]
                          simp only [List.length_append, List.length_take, List.length_drop, List.length_cons, List.length_nil, ← HNT.out]
                          omega
                        rw [HL8.out, hr9, hl9] at h9
                        rw [hl9]
                        exact ⟨a8, c8, _, rfl, (HP3.out.live.turn HX.out.1 HX.out.2).new HB8.out, h9⟩
                    · obtain ⟨g, rfl, hnc, hcm⟩ : ∃ g, a1 = some ⟨g, 0, none⟩ ∧ N ≤ c1 ∧ c1 ≤ 9223372036854775807 := by
                        rcases HROW.out.2 with ⟨e, h0⟩ | ⟨g, cap, cur, e, _, _, h3, h4, _⟩
                        · injection e with e; exact absurd e hsome
                        · injection e with e e2 e3
                          subst e3
                          exact ⟨g, e, h3, by simpa [maxLen] using h4⟩
                      by_cases hfull : c1 = q
                      · obtain rfl : q = N := by omega
                        obtain rfl : q = c1 := hfull.symm
                        have b1 : (q : Int) ≤ (q : Int) := by omega
                        have b5 : (q : Int) ≤ (q : Int) := by omega
                        have b4 : (q : Int) ≤ 1000000 := by omega
                        clear hnc hcm hqN
                        have q1 : IntKind.i64.wrap ((q : Int) + 1) = (q : Int) + 1 := IntWalk.i64_in _ (by omega)
                        have q2 : 0 ≤ (q : Int) + 1 := by omega
                        have q3 : ((q : Int) + 1).toNat = q + 1 := by omega
                        go_wp2_with (first
                          | (go_at_call 13; refine HR.out.mono ?_; rintro e w5 ⟨rfl, hA, hB⟩
                             have HX := Lib.hid (And.intro hA hB)
                             have HR5 := Lib.hid (show w5.ownsRow W.heap.size 43 14 (.slice (some ⟨g, 0, none⟩) (q) (q)) (q) (rcl T) from by
                               have := HP3.out.kept hB
                               rw [← HNT.out] at this
                               exact this)
                             have hs5 := Nat.le_trans hsz3 hB.size
                             have HB5 := Lib.hid (HB3.out.but hB (blk_map_ne HB3.out HP3.out))
                             clear hA hB)
                          | (go_at_call 12; refine (HC.out _).mono ?_; rintro e w6 ⟨rfl, rfl⟩
                             have HS1 := Lib.hid (show ∀ W', But (fun _ => False) w5 W' → Sees W' 14 (.slice (some ⟨g, 0, none⟩) q (q)) q (rcl (T.take q)) from fun W' hb => by
                               have h9 := sees_part (ownsRow_but HR5.out hb (fun _ _ h => h)) (i := 0) (j := q) (by omega) (o := 0) (c := (q)) (.inr (by omega))
                               rwa [List.drop_zero] at h9)
                             have hdN : T.drop (q) = [] := List.drop_eq_nil_of_le (by have := HNT.out; omega)
                             have HS2 := Lib.hid (show ∀ W', But (fun _ => False) w5 W' → Sees W' 14 (.slice (some ⟨g, 0, none⟩) 0 0) 0 (rcl (T.drop (q))) from fun W' hb => by rw [hdN]; exact .inr ⟨_, _, rfl, rfl, fun j u hu => by simp [rcl] at hu⟩)
                             clear hdN)
                          | (at_builtin; refine wpList_append_onto rfl (.tmp 113) (.tmp 116) _ rfl w5.heap.size 43 i0 _ 14 128 Try.underlying27 hi0 hz0 hz1 hz2 rfl (by omega) (.slice (some ⟨w5.heap.size, 0, none⟩) 0 0) 0 [] rfl (World.ownsRow_made (base := w5.heap.size) (e := 43) (size := 14) w5 #[] 0 (Nat.le_refl _) (by simp) (by simp)) (.slice (some ⟨g, 0, none⟩) q (q)) q (rcl (T.take q)) rfl (HS1.out _ ((But.refl _ w5).alloc _)) (rcl_one _) (by simp only [maxLen]; omega) (by omega) (by simp) ?_
                             intro v6 w6 ho6 hon6
                             have hb6 : But (fun _ => False) w5 w6 := ((But.refl _ w5).alloc _).trans hon6.but (fun i hi e => by
                               have e2 : i = w5.heap.size := Option.some.inj (show some i = some w5.heap.size from e)
                               omega)
                             rw [List.nil_append, Nat.zero_add] at ho6
                             have HO6 := Lib.hid ho6
                             have HB6 := Lib.hid hb6
                             have m1 : w6.cell? ⟨xb, 1, none⟩ = some (.int .u32 (d.s : Int)) := (HB5.out.but hb6 (fun h => h)).cell 1
                             have m2 : w6.cell? ⟨xb, 2, none⟩ = some (.int .i64 d.r) := (HB5.out.but hb6 (fun h => h)).cell 2
                             have m3 : w6.cell? ⟨xb, 3, none⟩ = some (.int .u64 (d.k : Int)) := (HB5.out.but hb6 (fun h => h)).cell 3
                             clear ho6 hb6 hon6)
                          | (at_builtin; refine wpList_append_onto rfl (.tmp 118) (.tmp 126) _ rfl w5.heap.size 43 i0 _ 14 128 Try.underlying27 hi0 hz0 hz1 hz2 rfl (by omega) v6 q (rcl (T.take q)) rfl (ownsRow_alloc HO6.out _) (.slice (some ⟨w6.heap.size, 0, none⟩) 1 1) 1 (rcells (⟨d.s, d.r, d.k⟩ : Tok)) rfl (sees_rec _ (⟨d.s, d.r, d.k⟩ : Tok) _ _ _ (by simp)) (rcells_one _) (by simp only [maxLen]; omega) (by omega) (by have := HB6.out.size; simp; omega) ?_
                             intro v7 w7 ho7 hon7
                             have hb7 : But (fun _ => False) w5 w7 := (HB6.out.alloc _).trans hon7.but (fun i hi e => by have := (HO6.out.lt i e.symm).1; omega)
                             have HO7 := Lib.hid ho7
                             have HB7 := Lib.hid hb7
                             clear ho7 hb7 hon7 m1 m2 m3)
                          | (at_builtin; refine wpList_append_onto rfl (.tmp 131) (.tmp 134) _ rfl w5.heap.size 43 i0 _ 14 128 Try.underlying27 hi0 hz0 hz1 hz2 rfl (by omega) v7 (q + 1) ((rcl (T.take q)) ++ rcells (⟨d.s, d.r, d.k⟩ : Tok)) rfl HO7.out (.slice (some ⟨g, 0, none⟩) 0 0) (0) (rcl (T.drop (q))) rfl (HS2.out _ HB7.out) (rcl_one _) (by simp only [maxLen]; omega) (by omega) HB7.out.size ?_
                             intro v8 w8 ho8 hon8
                             have hb8 : But (fun _ => False) w5 w8 := HB7.out.trans hon8.but (fun i hi e => by have := (HO7.out.lt i e.symm).1; omega)
                             obtain ⟨l8, hl8⟩ : ∃ l8, l8 = (rcl (T.take q)) ++ rcells (⟨d.s, d.r, d.k⟩ : Tok) ++ (rcl (T.drop (q))) := ⟨_, rfl⟩
                             rw [← hl8] at ho8
                             obtain ⟨n8, hn8⟩ : ∃ n8, n8 = q + 1 + (0) := ⟨_, rfl⟩
                             rw [← hn8] at ho8
                             obtain ⟨a8, c8, rfl⟩ := own_form ho8
                             have HO8 := Lib.hid ho8
                             have HB8 := Lib.hid hb8
                             have HN8 := Lib.hid hn8
                             have HL8 := Lib.hid hl8
                             clear ho8 hb8 hon8 hn8 hl8))
                        go_meet
                        case rel =>
                          have hd : T.take q ++ [(⟨d.s, d.r, d.k⟩ : Tok)] ++ T.drop (q) = put (⟨d.s, d.r, d.k⟩ : Tok) T := by
                            have h := put_plc (x := (⟨d.s, d.r, d.k⟩ : Tok)) HP3.out.live.at_.good.ris
                            dsimp only at h
                            rw [← HQ.out.1, ← HQ.out.2] at h
                            exact h
                          have h9 := own_base HO8.out hs5
                          have hr9 : (rcl (T.take q)) ++ rcells (⟨d.s, d.r, d.k⟩ : Tok) ++ (rcl (T.drop (q))) = rcl (put (⟨d.s, d.r, d.k⟩ : Tok) T) := by
                            rw [← hd, rcl_append, rcl_append]
                            simp [rcl]
                          have hl9 : n8 = (put (⟨d.s, d.r, d.k⟩ : Tok) T).length := by
                            rw [HN8.out, ← hd]
                            simp only [List.length_append, List.length_take, List.length_drop, List.length_cons, List.length_nil, ← HNT.out]
                            omega
                          rw [HL8.out, hr9, hl9] at h9
                          rw [hl9]
                          exact ⟨a8, c8, _, rfl, (HP3.out.live.turn HX.out.1 HX.out.2).new HB8.out, h9⟩
                      · have b1 : (q : Int) ≤ (N : Int) := by omega
                        have b2 : (N : Int) ≤ (c1 : Int) := by omega
                        have b3 : (q : Int) ≤ (c1 : Int) := by omega
                        have b5 : (q : Int) ≤ (N : Int) := by omega
                        have q1 : IntKind.i64.wrap ((q : Int) + 1) = (q : Int) + 1 := IntWalk.i64_in _ (by omega)
                        have q2 : 0 ≤ (q : Int) + 1 := by omega
                        have q3 : ((q : Int) + 1).toNat = q + 1 := by omega
                        go_wp2_with (first
                          | (go_at_call 13; refine HR.out.mono ?_; rintro e w5 ⟨rfl, hA, hB⟩
                             have HX := Lib.hid (And.intro hA hB)
                             have HR5 := Lib.hid (show w5.ownsRow W.heap.size 43 14 (.slice (some ⟨g, 0, none⟩) (N) (c1)) (N) (rcl T) from by
                               have := HP3.out.kept hB
                               rw [← HNT.out] at this
                               exact this)
                             have hs5 := Nat.le_trans hsz3 hB.size
                             have HB5 := Lib.hid (HB3.out.but hB (blk_map_ne HB3.out HP3.out))
                             clear hA hB)
                          | (go_at_call 12; refine (HC.out _).mono ?_; rintro e w6 ⟨rfl, rfl⟩
                             have HS1 := Lib.hid (show ∀ W', But (fun _ => False) w5 W' → Sees W' 14 (.slice (some ⟨g, 0, none⟩) q (c1)) q (rcl (T.take q)) from fun W' hb => by
                               have h9 := sees_part (ownsRow_but HR5.out hb (fun _ _ h => h)) (i := 0) (j := q) (by omega) (o := 0) (c := (c1)) (.inr (by omega))
                               rwa [List.drop_zero] at h9)
                             have HS2 := Lib.hid (show ∀ W', But (fun _ => False) w5 W' → Sees W' 14 (.slice (some ⟨g, (q) * 14, none⟩) (N - (q)) (c1 - (q))) (N - (q)) (rcl (T.drop (q))) from fun W' hb => by
                               have h9 := sees_part (ownsRow_but HR5.out hb (fun _ _ h => h)) (i := q) (j := N - (q)) (by omega) (o := (q) * 14) (c := c1 - (q)) (.inr rfl)
                               rwa [List.take_of_length_le (by rw [List.length_drop, ← HNT.out]; omega)] at h9))
                          | (at_builtin; refine wpList_append_onto rfl (.tmp 113) (.tmp 116) _ rfl w5.heap.size 43 i0 _ 14 128 Try.underlying27 hi0 hz0 hz1 hz2 rfl (by omega) (.slice (some ⟨w5.heap.size, 0, none⟩) 0 0) 0 [] rfl (World.ownsRow_made (base := w5.heap.size) (e := 43) (size := 14) w5 #[] 0 (Nat.le_refl _) (by simp) (by simp)) (.slice (some ⟨g, 0, none⟩) q (c1)) q (rcl (T.take q)) rfl (HS1.out _ ((But.refl _ w5).alloc _)) (rcl_one _) (by simp only [maxLen]; omega) (by omega) (by simp) ?_
                             intro v6 w6 ho6 hon6
                             have hb6 : But (fun _ => False) w5 w6 := ((But.refl _ w5).alloc _).trans hon6.but (fun i hi e => by
                               have e2 : i = w5.heap.size := Option.some.inj (show some i = some w5.heap.size from e)
                               omega)
                             rw [List.nil_append, Nat.zero_add] at ho6
                             have HO6 := Lib.hid ho6
                             have HB6 := Lib.hid hb6
                             have m1 : w6.cell? ⟨xb, 1, none⟩ = some (.int .u32 (d.s : Int)) := (HB5.out.but hb6 (fun h => h)).cell 1
                             have m2 : w6.cell? ⟨xb, 2, none⟩ = some (.int .i64 d.r) := (HB5.out.but hb6 (fun h => h)).cell 2
                             have m3 : w6.cell? ⟨xb, 3, none⟩ = some (.int .u64 (d.k : Int)) := (HB5.out.but hb6 (fun h => h)).cell 3
                             clear ho6 hb6 hon6)
                          | (at_builtin; refine wpList_append_onto rfl (.tmp 118) (.tmp 126) _ rfl w5.heap.size 43 i0 _ 14 128 Try.underlying27 hi0 hz0 hz1 hz2 rfl (by omega) v6 q (rcl (T.take q)) rfl (ownsRow_alloc HO6.out _) (.slice (some ⟨w6.heap.size, 0, none⟩) 1 1) 1 (rcells (⟨d.s, d.r, d.k⟩ : Tok)) rfl (sees_rec _ (⟨d.s, d.r, d.k⟩ : Tok) _ _ _ (by simp)) (rcells_one _) (by simp only [maxLen]; omega) (by omega) (by have := HB6.out.size; simp; omega) ?_
                             intro v7 w7 ho7 hon7
                             have hb7 : But (fun _ => False) w5 w7 := (HB6.out.alloc _).trans hon7.but (fun i hi e => by have := (HO6.out.lt i e.symm).1; omega)
                             have HO7 := Lib.hid ho7
                             have HB7 := Lib.hid hb7
                             clear ho7 hb7 hon7 m1 m2 m3)
                          | (at_builtin; refine wpList_append_onto rfl (.tmp 131) (.tmp 134) _ rfl w5.heap.size 43 i0 _ 14 128 Try.underlying27 hi0 hz0 hz1 hz2 rfl (by omega) v7 (q + 1) ((rcl (T.take q)) ++ rcells (⟨d.s, d.r, d.k⟩ : Tok)) rfl HO7.out (.slice (some ⟨g, (q) * 14, none⟩) (N - (q)) (c1 - (q))) (N - (q)) (rcl (T.drop (q))) rfl (HS2.out _ HB7.out) (rcl_one _) (by simp only [maxLen]; omega) (by omega) HB7.out.size ?_
                             intro v8 w8 ho8 hon8
                             have hb8 : But (fun _ => False) w5 w8 := HB7.out.trans hon8.but (fun i hi e => by have := (HO7.out.lt i e.symm).1; omega)
                             obtain ⟨l8, hl8⟩ : ∃ l8, l8 = (rcl (T.take q)) ++ rcells (⟨d.s, d.r, d.k⟩ : Tok) ++ (rcl (T.drop (q))) := ⟨_, rfl⟩
                             rw [← hl8] at ho8
                             obtain ⟨n8, hn8⟩ : ∃ n8, n8 = q + 1 + (N - (q)) := ⟨_, rfl⟩
                             rw [← hn8] at ho8
                             obtain ⟨a8, c8, rfl⟩ := own_form ho8
                             have HO8 := Lib.hid ho8
                             have HB8 := Lib.hid hb8
                             have HN8 := Lib.hid hn8
                             have HL8 := Lib.hid hl8
                             clear ho8 hb8 hon8 hn8 hl8))
                        go_meet
                        case rel =>
                          have hd : T.take q ++ [(⟨d.s, d.r, d.k⟩ : Tok)] ++ T.drop (q) = put (⟨d.s, d.r, d.k⟩ : Tok) T := by
                            have h := put_plc (x := (⟨d.s, d.r, d.k⟩ : Tok)) HP3.out.live.at_.good.ris
                            dsimp only at h
                            rw [← HQ.out.1, ← HQ.out.2] at h
                            exact h
                          have h9 := own_base HO8.out hs5
                          have hr9 : (rcl (T.take q)) ++ rcells (⟨d.s, d.r, d.k⟩ : Tok) ++ (rcl (T.drop (q))) = rcl (put (⟨d.s, d.r, d.k⟩ : Tok) T) := by
                            rw [← hd, rcl_append, rcl_append]
                            simp [rcl]
                          have hl9 : n8 = (put (⟨d.s, d.r, d.k⟩ : Tok) T).length := by
                            rw [HN8.out, ← hd]
                            simp only [List.length_append, List.length_take, List.length_drop, List.length_cons, List.length_nil, ← HNT.out]
                            omega
                          rw [HL8.out, hr9, hl9] at h9
                          rw [hl9]
                          exact ⟨a8, c8, _, rfl, (HP3.out.live.turn HX.out.1 HX.out.2).new HB8.out, h9⟩
                · have hqN : q < N := by
                    have h1 := (plc_look (s := d.s) HP3.out.live.at_.good.ris).1 (by rw [← HQ.out.2])
                    rw [← HQ.out.1] at h1
                    rw [HNT.out]
                    exact h1.1
                  obtain rfl : pe = 0 := by rw [HPE.out]; exact (by rw [putErr, if_neg (by omega), if_neg (by intro h; have h2 := HQ.out.2; rw [h.1] at h2; cases h2)])
                  obtain rfl : T' = put ⟨d.s, d.r, d.k⟩ T := by rw [HT'.out, putTo, if_pos (show putErr d.s d.r T = 0 from (by rw [putErr, if_neg (by omega), if_neg (by intro h; have h2 := HQ.out.2; rw [h.1] at h2; cases h2)]))]
                  obtain ⟨g, rfl, hnc, hcm⟩ : ∃ g, a1 = some ⟨g, 0, none⟩ ∧ N ≤ c1 ∧ c1 ≤ 9223372036854775807 := by
                    rcases HROW.out.2 with ⟨e, h0⟩ | ⟨g, cap, cur, e, _, _, h3, h4, _⟩
                    · omega
                    · injection e with e e2 e3
                      subst e3
                      exact ⟨g, e, h3, by simpa [maxLen] using h4⟩
                  have b3 : (q : Int) ≤ (c1 : Int) := by omega
                  have b5 : (q : Int) ≤ (N : Int) := by omega
                  have q1 : IntKind.i64.wrap ((q : Int) + 1) = (q : Int) + 1 := IntWalk.i64_in _ (by omega)
                  have q2 : 0 ≤ (q : Int) + 1 := by omega
                  have q3 : ((q : Int) + 1).toNat = q + 1 := by omega
                  go_upto_region 30 with (first
                    | (go_at_call 13; refine HR.out.mono ?_; rintro e w5 ⟨rfl, hA, hB⟩
                       have HX := Lib.hid (And.intro hA hB)
                       have HR5 := Lib.hid (show w5.ownsRow W.heap.size 43 14 (.slice (some ⟨g, 0, none⟩) (N) (c1)) (N) (rcl T) from by
                         have := HP3.out.kept hB
                         rw [← HNT.out] at this
                         exact this)
                       have hs5 := Nat.le_trans hsz3 hB.size
                       have HB5 := Lib.hid (HB3.out.but hB (blk_map_ne HB3.out HP3.out))
                       clear hA hB)
                    | (go_at_call 12; refine (HC.out _).mono ?_; rintro e w6 ⟨rfl, rfl⟩
                       have HS1 := Lib.hid (show ∀ W', But (fun _ => False) w5 W' → Sees W' 14 (.slice (some ⟨g, 0, none⟩) q (c1)) q (rcl (T.take q)) from fun W' hb => by
                         have h9 := sees_part (ownsRow_but HR5.out hb (fun _ _ h => h)) (i := 0) (j := q) (by omega) (o := 0) (c := (c1)) (.inr (by omega))
                         rwa [List.drop_zero] at h9))
                    | (at_builtin; refine wpList_append_onto rfl (.tmp 113) (.tmp 116) _ rfl w5.heap.size 43 i0 _ 14 128 Try.underlying27 hi0 hz0 hz1 hz2 rfl (by omega) (.slice (some ⟨w5.heap.size, 0, none⟩) 0 0) 0 [] rfl (World.ownsRow_made (base := w5.heap.size) (e := 43) (size := 14) w5 #[] 0 (Nat.le_refl _) (by simp) (by simp)) (.slice (some ⟨g, 0, none⟩) q (c1)) q (rcl (T.take q)) rfl (HS1.out _ ((But.refl _ w5).alloc _)) (rcl_one _) (by simp only [maxLen]; omega) (by omega) (by simp) ?_
                       intro v6 w6 ho6 hon6
                       have hb6 : But (fun _ => False) w5 w6 := ((But.refl _ w5).alloc _).trans hon6.but (fun i hi e => by
                         have e2 : i = w5.heap.size := Option.some.inj (show some i = some w5.heap.size from e)
                         omega)
                       rw [List.nil_append, Nat.zero_add] at ho6
                       have HO6 := Lib.hid ho6
                       have HB6 := Lib.hid hb6
                       have m1 : w6.cell? ⟨xb, 1, none⟩ = some (.int .u32 (d.s : Int)) := (HB5.out.but hb6 (fun h => h)).cell 1
                       have m2 : w6.cell? ⟨xb, 2, none⟩ = some (.int .i64 d.r) := (HB5.out.but hb6 (fun h => h)).cell 2
                       have m3 : w6.cell? ⟨xb, 3, none⟩ = some (.int .u64 (d.k : Int)) := (HB5.out.but hb6 (fun h => h)).cell 3
                       clear ho6 hb6 hon6)
                    | (at_builtin; refine wpList_append_onto rfl (.tmp 118) (.tmp 126) _ rfl w5.heap.size 43 i0 _ 14 128 Try.underlying27 hi0 hz0 hz1 hz2 rfl (by omega) v6 q (rcl (T.take q)) rfl (ownsRow_alloc HO6.out _) (.slice (some ⟨w6.heap.size, 0, none⟩) 1 1) 1 (rcells (⟨d.s, d.r, d.k⟩ : Tok)) rfl (sees_rec _ (⟨d.s, d.r, d.k⟩ : Tok) _ _ _ (by simp)) (rcells_one _) (by simp only [maxLen]; omega) (by omega) (by have := HB6.out.size; simp; omega) ?_
                       intro v7 w7 ho7 hon7
                       have hb7 : But (fun _ => False) w5 w7 := (HB6.out.alloc _).trans hon7.but (fun i hi e => by have := (HO6.out.lt i e.symm).1; omega)
                       have HO7 := Lib.hid ho7
                       have HB7 := Lib.hid hb7
                       clear ho7 hb7 hon7 m1 m2 m3))
                  by_cases hfull : c1 = q + 1
                  · obtain rfl : q + 1 = N := by omega
                    obtain rfl : q + 1 = c1 := hfull.symm
                    have b1 : (q : Int) + 1 ≤ (q : Int) + 1 := by omega
                    have b5 : (q : Int) ≤ (q : Int) + 1 := by omega
                    have b4 : (q : Int) ≤ 1000000 := by omega
                    clear hnc hcm hqN b3
                    have hdN : T.drop (q + 1) = [] := List.drop_eq_nil_of_le (by have := HNT.out; omega)
                    have HS2 := Lib.hid (show ∀ W', But (fun _ => False) w5 W' → Sees W' 14 (.slice (some ⟨g, 0, none⟩) 0 0) 0 (rcl (T.drop (q + 1))) from fun W' hb => by rw [hdN]; exact .inr ⟨_, _, rfl, rfl, fun j u hu => by simp [rcl] at hu⟩)
                    clear hdN
                    go_wp2_with (first
                      | (at_builtin; refine wpList_append_onto rfl (.tmp 131) (.tmp 134) _ rfl w5.heap.size 43 i0 _ 14 128 Try.underlying27 hi0 hz0 hz1 hz2 rfl (by omega) v7 (q + 1) ((rcl (T.take q)) ++ rcells (⟨d.s, d.r, d.k⟩ : Tok)) rfl HO7.out (.slice (some ⟨g, 0, none⟩) 0 0) (0) (rcl (T.drop (q + 1))) rfl (HS2.out _ HB7.out) (rcl_one _) (by simp only [maxLen]; omega) (by omega) HB7.out.size ?_
                         intro v8 w8 ho8 hon8
                         have hb8 : But (fun _ => False) w5 w8 := HB7.out.trans hon8.but (fun i hi e => by have := (HO7.out.lt i e.symm).1; omega)
                         obtain ⟨l8, hl8⟩ : ∃ l8, l8 = (rcl (T.take q)) ++ rcells (⟨d.s, d.r, d.k⟩ : Tok) ++ (rcl (T.drop (q + 1))) := ⟨_, rfl⟩
                         rw [← hl8] at ho8
                         obtain ⟨n8, hn8⟩ : ∃ n8, n8 = q + 1 + (0) := ⟨_, rfl⟩
                         rw [← hn8] at ho8
                         obtain ⟨a8, c8, rfl⟩ := own_form ho8
                         have HO8 := Lib.hid ho8
                         have HB8 := Lib.hid hb8
                         have HN8 := Lib.hid hn8
                         have HL8 := Lib.hid hl8
                         clear ho8 hb8 hon8 hn8 hl8))
                    go_meet
                    case rel =>
                      have hd : T.take q ++ [(⟨d.s, d.r, d.k⟩ : Tok)] ++ T.drop (q + 1) = put (⟨d.s, d.r, d.k⟩ : Tok) T := by
                        have h := put_plc (x := (⟨d.s, d.r, d.k⟩ : Tok)) HP3.out.live.at_.good.ris
                        dsimp only at h
                        rw [← HQ.out.1, ← HQ.out.2] at h
                        exact h
                      have h9 := own_base HO8.out hs5
                      have hr9 : (rcl (T.take q)) ++ rcells (⟨d.s, d.r, d.k⟩ : Tok) ++ (rcl (T.drop (q + 1))) = rcl (put (⟨d.s, d.r, d.k⟩ : Tok) T) := by
                        rw [← hd, rcl_append, rcl_append]
                        simp [rcl]
                      have hl9 : n8 = (put (⟨d.s, d.r, d.k⟩ : Tok) T).length := by
                        rw [HN8.out, ← hd]
                        simp only [List.length_append, List.length_take, List.length_drop, List.length_cons, List.length_nil, ← HNT.out]
                        omega
                      rw [HL8.out, hr9, hl9] at h9
                      rw [hl9]
                      exact ⟨a8, c8, _, rfl, (HP3.out.live.turn HX.out.1 HX.out.2).new HB8.out, h9⟩
                  · have b1 : (q : Int) + 1 ≤ (N : Int) := by omega
                    have b2 : (N : Int) ≤ (c1 : Int) := by omega
                    have HS2 := Lib.hid (show ∀ W', But (fun _ => False) w5 W' → Sees W' 14 (.slice (some ⟨g, (q + 1) * 14, none⟩) (N - (q + 1)) (c1 - (q + 1))) (N - (q + 1)) (rcl (T.drop (q + 1))) from fun W' hb => by
                      have h9 := sees_part (ownsRow_but HR5.out hb (fun _ _ h => h)) (i := q + 1) (j := N - (q + 1)) (by omega) (o := (q + 1) * 14) (c := c1 - (q + 1)) (.inr rfl)
                      rwa [List.take_of_length_le (by rw [List.length_drop, ← HNT.out]; omega)] at h9)
                    go_wp2_with (first
                      | (at_builtin; refine wpList_append_onto rfl (.tmp 131) (.tmp 134) _ rfl w5.heap.size 43 i0 _ 14 128 Try.underlying27 hi0 hz0 hz1 hz2 rfl (by omega) v7 (q + 1) ((rcl (T.take q)) ++ rcells (⟨d.s, d.r, d.k⟩ : Tok)) rfl HO7.out (.slice (some ⟨g, (q + 1) * 14, none⟩) (N - (q + 1)) (c1 - (q + 1))) (N - (q + 1)) (rcl (T.drop (q + 1))) rfl (HS2.out _ HB7.out) (rcl_one _) (by simp only [maxLen]; omega) (by omega) HB7.out.size ?_
                         intro v8 w8 ho8 hon8
                         have hb8 : But (fun _ => False) w5 w8 := HB7.out.trans hon8.but (fun i hi e => by have := (HO7.out.lt i e.symm).1; omega)
                         obtain ⟨l8, hl8⟩ : ∃ l8, l8 = (rcl (T.take q)) ++ rcells (⟨d.s, d.r, d.k⟩ : Tok) ++ (rcl (T.drop (q + 1))) := ⟨_, rfl⟩
                         rw [← hl8] at ho8
                         obtain ⟨n8, hn8⟩ : ∃ n8, n8 = q + 1 + (N - (q + 1)) := ⟨_, rfl⟩
                         rw [← hn8] at ho8
                         obtain ⟨a8, c8, rfl⟩ := own_form ho8
                         have HO8 := Lib.hid ho8
                         have HB8 := Lib.hid hb8
                         have HN8 := Lib.hid hn8
                         have HL8 := Lib.hid hl8
                         clear ho8 hb8 hon8 hn8 hl8))
                    go_meet
                    case rel =>
                      have hd : T.take q ++ [(⟨d.s, d.r, d.k⟩ : Tok)] ++ T.drop (q + 1) = put (⟨d.s, d.r, d.k⟩ : Tok) T := by
                        have h := put_plc (x := (⟨d.s, d.r, d.k⟩ : Tok)) HP3.out.live.at_.good.ris
                        dsimp only at h
                        rw [← HQ.out.1, ← HQ.out.2] at h
                        exact h
                      have h9 := own_base HO8.out hs5
                      have hr9 : (rcl (T.take q)) ++ rcells (⟨d.s, d.r, d.k⟩ : Tok) ++ (rcl (T.drop (q + 1))) = rcl (put (⟨d.s, d.r, d.k⟩ : Tok) T) := by
                        rw [← hd, rcl_append, rcl_append]
                        simp [rcl]
                      have hl9 : n8 = (put (⟨d.s, d.r, d.k⟩ : Tok) T).length := by
                        rw [HN8.out, ← hd]
                        simp only [List.length_append, List.length_take, List.length_drop, List.length_cons, List.length_nil, ← HNT.out]
                        omega
                      rw [HL8.out, hr9, hl9] at h9
                      rw [hl9]
                      exact ⟨a8, c8, _, rfl, (HP3.out.live.turn HX.out.1 HX.out.2).new HB8.out, h9⟩
        case rest =>
          obtain ⟨a2, c2, T2, rfl, hP⟩ := hcut
          have HAL := Lib.hid (rgt_all hP.live.at_)
          have HPX := Lib.hid hP
          have hN2 := hP.live.at_.good.len
          obtain ⟨N2, hNT2⟩ : ∃ N2, N2 = T2.length := ⟨_, rfl⟩
          rw [← hNT2] at hN2 HAL HPX ⊢
          have HNT2 := Lib.hid hNT2
          clear hP hNT2 HRG HOK HBK HP2 HPK HNT HQ HPR hT
          go_wp2_with (first
            | (go_at_call 14; refine HAL.out.mono ?_; rintro e w6 ⟨a3, c3, rfl, hr, hb⟩
               have HP6 := Lib.hid (HPX.out.new hb)
               have HR6 := Lib.hid hr
               have HLN := Lib.hid (rgt_len HP6.out.live.at_)
               rw [← HNT2.out] at HLN
               clear hr hb)
            | (go_at_call 15; refine HLN.out.mono ?_; rintro e w7 ⟨rfl, rfl⟩))
          go_loopw [17] (fun v wr => ∃ k : Nat, k ≤ N2 ∧ v = .int .i64 (k : Int) ∧ PR W wr p mb (.slice a2 N2 c2) T2 ∧ wr.ownsRow wc.heap.size 43 14 (.slice a3 N2 c3) N2 (rcl T2)) (fun v _ => N2 - (intOf v).toNat)
          case atStart => exact ⟨0, by omega, rfl, HP6.out, HR6.out⟩
          case round =>
            obtain ⟨k, hk, rfl, hPk, hRk⟩ := hrel
            have HPk := Lib.hid hPk
            have HRk := Lib.hid hRk
            by_cases hkn : k < N2
            · have hkT : k < T2.length := by rw [← HNT2.out]; exact hkn
              obtain ⟨g2, rfl⟩ : ∃ g, a2 = some ⟨g, 0, none⟩ := by
                rcases hPk.row.2 with ⟨_, h0⟩ | ⟨g, cap, cur, e, _⟩
                · omega
                · injection e with e
                  exact ⟨g, e⟩
              obtain ⟨g3, rfl⟩ : ∃ g, a3 = some ⟨g, 0, none⟩ := by
                rcases hRk.2 with ⟨_, h0⟩ | ⟨g, cap, cur, e, _⟩
                · omega
                · injection e with e
                  exact ⟨g, e⟩
              have h2 := row_cells (by have := hPk.row; rw [← HNT2.out] at this; exact this) hkT
              have h3 := row_cells hRk hkT
              obtain ⟨x9, hx9⟩ : ∃ x9, x9 = T2[k] := ⟨_, rfl⟩
              rw [← hx9] at h2 h3
              have e0 : wr.cell? ⟨g2, k * 14, none⟩ = some (.int .i64 5) := h2 0 _ rfl
              have e1 := h2 1 _ rfl
              have e2 := h2 2 _ rfl
              have e3 := h2 3 _ rfl
              have e4 := h2 4 _ rfl
              have e5 := h2 5 _ rfl
              have e6 := h2 6 _ rfl
              have e7 := h2 7 _ rfl
              have e8 := h2 8 _ rfl
              have e9 := h2 9 _ rfl
              have e10 := h2 10 _ rfl
              have e11 := h2 11 _ rfl
              have e12 := h2 12 _ rfl
              have e13 := h2 13 _ rfl
              have f0 : wr.cell? ⟨g3, k * 14, none⟩ = some (.int .i64 5) := h3 0 _ rfl
              have f1 := h3 1 _ rfl
              have f2 := h3 2 _ rfl
              have f3 := h3 3 _ rfl
              have f4 := h3 4 _ rfl
              have f5 := h3 5 _ rfl
              have f6 := h3 6 _ rfl
              have f7 := h3 7 _ rfl
              have f8 := h3 8 _ rfl
              have f9 := h3 9 _ rfl
              have f10 := h3 10 _ rfl
              have f11 := h3 11 _ rfl
              have f12 := h3 12 _ rfl
              have f13 := h3 13 _ rfl
              have hne := fun w => rec_neq x9 w
              simp only [rcells] at hne
              clear h2 h3 hPk hRk hx9 hkT
              go_wp2_with fail
              go_quiet (fail)
              have HPn := Lib.hid (HPk.out.new ((But.refl (fun _ => False) wr).drewN nq))
              have HRn := Lib.hid (ownsRow_but HRk.out ((But.refl (fun _ => False) wr).drewN nq) (fun _ _ h => h))
              clear e0 e1 e2 e3 e4 e5 e6 e7 e8 e9 e10 e11 e12 e13 f0 f1 f2 f3 f4 f5 f6 f7 f8 f9 f10 f11 f12 f13 hne
              generalize wr.drewN nq = wq at HPn HRn ⊢
              go_wp2
              go_roundw
              case rel => exact ⟨k + 1, by omega, by go_num, HPn.out, HRn.out⟩
              case measure => (simp [intOf] <;> omega)
            · clear hPk hRk
              go_wp2
              go_roundw
              case rel => exact ⟨i + 1, a2, c2, T2, by omega, by go_num, by rw [← HNT2.out], HPk.out⟩
              case measure => (simp [intOf] <;> omega)
      · clear hPR
        go_wp2
        go_ret
        exact ⟨rfl, HPR.out.live.but⟩
end Go.Proofs.Ytciplhpnbpmfeaa.Rgt
