/- TornCuts: the walk of the law. -/
import Derived.Test.YtgfhcbdhggnbaaaTornMore
namespace Go.Proofs.Ytgfhcbdhggnbaaa.Torn
open Go.Proofs.Ytgfhcbdhggnbaaa.Mem Go.Proofs.Ytgfhcbdhggnbaaa.Err
open Go.Proofs.Ytgfhcbdhggnbaaa.Rec (Rcd recsOf Is May okBody Recs rcl few_at FewAt refBody_any BodySays own_nil_cap Small same_yes)
open Go.Proofs.Ytgfhcbdhggnbaaa.Frame (In frm refFrame_any frm_bytes)
open Go.ChangeShapes Go.WideShapes Go.ChangeAt Go.RowKit
set_option linter.unusedVariables false
set_option linter.unusedSimpArgs false

set_option maxRecDepth 100000 in
set_option maxHeartbeats 1000000 in
theorem cuts_long (a : Option Addr) (len cap : Nat) (cut : Int) (w : World) (hm : len ≤ 9223372036854775807) (h : 15 < len ∨ cut < 0) :
    Calls Try.prog 4 #[.slice a len cap, .int .i64 cut] w fun e w' => e = .returned (.bool true) ∧ Below w.heap.size w w' := by
  by_cases h0 : 15 < len
  · clear h
    go_enter Try.func4, Try.ntmps4
    go_wp2_with fail
    refine (up_any w).mono ?_
    rintro e w1 ⟨rfl, hb1⟩
    go_wp2_with fail
    go_ret
    exact ⟨rfl, hb1⟩
  · have h1 : cut < 0 := by omega
    clear h
    go_enter Try.func4, Try.ntmps4
    go_wp2_with fail
    refine (up_any w).mono ?_
    rintro e w1 ⟨rfl, hb1⟩
    go_wp2_with fail
    go_ret
    exact ⟨rfl, hb1⟩
theorem own_own_ne {w : World} {base base' : Nat} {e e' : TypeId} {size size' n n' : Nat} {v v' : Value} {xs xs' : List Value} (h : w.ownsRow base e size v n xs) (h' : w.ownsRow base' e' size' v' n' xs') (hne : e ≠ e') (k : Nat) (hk : v'.ownBlock = some k) : v.ownBlock ≠ some k := by
  rcases h'.2 with ⟨h1, _⟩ | ⟨g, cap, cur, h1, _, h3, _⟩
  · rw [h1] at hk; cases hk
  · rw [h1] at hk
    have hg : g = k := by simpa [Value.ownBlock] using hk
    subst hg
    exact own_blk_ne h (show Blk w g e' cur from h3) hne
theorem own_base {w : World} {base base' : Nat} {e : TypeId} {size n : Nat} {v : Value} {xs : List Value} (h : w.ownsRow base e size v n xs) (hb : base' ≤ base) : w.ownsRow base' e size v n xs := ⟨h.1, by
  rcases h.2 with h | ⟨g', c', cur', q1, q2, q3⟩
  · exact .inl h
  · exact .inr ⟨g', c', cur', q1, Nat.le_trans hb q2, q3⟩⟩
/- What a round of the first loop leaves: the frames of the first lists, and their ends. -/
def Made (w : World) (ls : List (List Rcd)) (wr : World) (vb ve : Value) (k : Nat) : Prop :=
  wr.ownsRow w.heap.size 5 1 vb (upTo ls k) (cellsOf (frames (ls.take k))) ∧ wr.ownsRow w.heap.size 3 1 ve k (endsOf ls k) ∧ (∀ l ∈ ls.take k, okBody l ∧ l.length ≤ 10) ∧ Below w.heap.size w wr
theorem Made.le {w wr : World} {ls : List (List Rcd)} {vb ve : Value} {k : Nat} (h : Made w ls wr vb ve k) (hk : k ≤ ls.length) : upTo ls k ≤ k * 20008 := by
  have h1 : upTo (ls.take k) k ≤ k * 20008 := upTo_le _ k 20008 (fun l hl => by
    have := (h.2.2.1 l hl).1.2.2
    unfold size; omega)
  unfold upTo at h1 ⊢
  rwa [List.take_take, Nat.min_self] at h1
theorem made_more {ls : List (List Rcd)} {k : Nat} (hk : k < ls.length) (h : ∀ l ∈ ls.take k, okBody l ∧ l.length ≤ 10) (h1 : okBody ls[k]) (h2 : ls[k].length ≤ 10) : ∀ l ∈ ls.take (k + 1), okBody l ∧ l.length ≤ 10 := by
  intro l hl
  rw [List.take_succ_eq_append_getElem hk] at hl
  rcases List.mem_append.1 hl with hl | hl
  · exact h l hl
  · rw [List.mem_singleton.1 hl]; exact ⟨h1, h2⟩
theorem own_keep {w w' : World} {base base' : Nat} {e e' : TypeId} {size size' n n' : Nat} {v v' v2 : Value} {xs xs' : List Value} (h : w.ownsRow base e size v n xs) (h' : w.ownsRow base' e' size' v' n' xs') (hne : e ≠ e') (hon : Onto w w' v v2) : w'.ownsRow base' e' size' v' n' xs' :=
  ownsRow_but h' hon.but (fun j hj e => own_own_ne h h' hne j hj e.symm)
theorem made_next {w w3 w4 w5 : World} {ls : List (List Rcd)} {vb ve v4 v5 : Value} {k M : Nat} {gl : List Rcd} (hk : ∃ h : k < ls.length, ls[k] = gl) (hob : w3.ownsRow w.heap.size 5 1 vb (upTo ls k) (cellsOf (frames (ls.take k)))) (hoe : w3.ownsRow w.heap.size 3 1 ve k (endsOf ls k))
    (hall : ∀ l ∈ ls.take k, okBody l ∧ l.length ≤ 10) (hok : okBody gl) (h10 : gl.length ≤ 10) (hb3 : Below w.heap.size w w3) (hM : M = upTo ls k + ((Rec.body gl).length + 8)) (ho4 : w4.ownsRow w.heap.size 5 1 v4 M (cellsOf (frames (ls.take k) ++ frm (Rec.body gl)))) (hon4 : Onto w3 w4 vb v4) (o : Obj)
    (ho5 : w5.ownsRow w.heap.size 3 1 v5 (k + 1) (endsOf ls k ++ [.int .i64 ((M : Nat) : Int)])) (hon5 : Onto (w4.alloc o) w5 ve v5) : Made w ls w5 v4 v5 (k + 1) ∧ M = upTo ls (k + 1) := by
  obtain ⟨hk, rfl⟩ := hk
  have hM2 : M = upTo ls (k + 1) := by rw [upTo_succ ls k hk, hM]; rfl
  have hoe4 := own_keep hob hoe (by decide) hon4
  have hon := hon5.of_alloc (fun j hj => (hoe4.lt j hj).2)
  have hb4 := hb3.trans (hon4.below hob hb3.size)
  refine ⟨⟨?_, ?_, made_more hk hall hok h10, hb4.trans (hon.below hoe4 hb4.size)⟩, hM2⟩
  · rw [frames_snoc ls k hk, ← hM2]
    exact own_keep hoe4 ho4 (by decide) hon
  · rw [endsOf_succ, ← hM2]; exact ho5
theorem in_front {w : World} {g : Nat} {L cap : Nat} {zs : List Int} (h : In w (some ⟨g, 0, none⟩) L cap zs) (k : Nat) (hk : k ≤ L) : In w (some ⟨g, 0, none⟩) k cap (zs.take k) := by
  refine ⟨?_, Nat.le_trans hk h.fits, h.small, fun e => by cases e⟩
  have := Pack.Row.part h.row 0 k (by omega) (some ⟨g, 0, none⟩) (fun _ => rfl)
  simpa using this
theorem upTo_pos (ls : List (List Rcd)) (k : Nat) (hk : k ≤ ls.length) (h : 0 < k) : ∃ n, upTo ls k = n + 8 := by
  obtain ⟨k, rfl⟩ : ∃ j, k = j + 1 := ⟨k - 1, by omega⟩
  rw [upTo_succ ls k (by omega)]
  have := size_pos ls[k]
  exact ⟨upTo ls k + size ls[k] - 8, by omega⟩
set_option maxRecDepth 100000 in
set_option maxHeartbeats 1000000 in
theorem cuts_some (a : Option Addr) (N cap c : Nat) (gs : List Lg) (w : World) (h : Lists w a gs) (hN : N = gs.length) (h0 : 0 < N) (hl : N ≤ 15) (hc : c ≤ 9223372036854775807) (hB : ∀ g ∈ gs, g.l.length ≤ 900000) :
    Calls Try.prog 4 #[.slice a N cap, .int .i64 (c : Int)] w fun e w' => e = .returned (.bool true) ∧ Below w.heap.size w w' := by
  obtain ⟨i0, hi0, hz0, hz1, hz2⟩ := info_parts Pack.u8_info
  obtain ⟨i1, hi1, hy0, hy1, hy2⟩ := info_parts int_info
  obtain ⟨ls, hls⟩ : ∃ ls, ls = gs.map (·.l) := ⟨_, rfl⟩
  have hlsN : ls.length = N := by rw [hls, List.length_map, hN]
  have t0 : decide ((c : Int) < 0) = false := by simp
  have HL := Lib.hid h
  have HG := Lib.hid (And.intro hN (And.intro hB (And.intro hls hlsN)))
  clear h hN hB hls hlsN
  go_enter Try.func4, Try.ntmps4
  go_wp2_with fail
  refine (up_any w).mono ?_
  rintro e w1 ⟨rfl, hb1⟩
  have HB1 := Lib.hid hb1
  clear hb1
  go_wp2_with fail
  go_loopw [6, 7, 8, 9, 10, 11] (fun b e i _ _ _ wr => ∃ (k : Nat) (ab : Option Addr) (nb cb : Nat) (ae : Option Addr) (ce : Nat), k ≤ N ∧ b = .slice ab nb cb ∧ e = .slice ae k ce ∧ i = .int .i64 (k : Int) ∧ nb = upTo ls k ∧ nb ≤ k * 20008 ∧ Made w ls wr (.slice ab nb cb) (.slice ae k ce) k) (fun _ _ i _ _ _ _ => N - (intOf i).toNat)
  case atStart => exact ⟨0, none, 0, 0, none, 0, Nat.zero_le _, rfl, rfl, rfl, rfl, by omega, World.ownsRow_nil _ _ _ _, World.ownsRow_nil _ _ _ _, fun l hl => absurd hl List.not_mem_nil, HB1.out⟩
  case round =>
    obtain ⟨k, ab, nb, cb, ae, ce, hk, rfl, rfl, rfl, hnb, hnle, hm⟩ := hrel
    have HM := Lib.hid hm
    have HNB := Lib.hid hnb
    clear hm hnb
    by_cases hlt : k < N
    · obtain ⟨hgN, hgB, hgl, hlN⟩ := HG.out
      have hkg : k < gs.length := by omega
      have hkl : k < ls.length := by omega
      have hLr := HL.out.below HM.out.2.2.2
      obtain ⟨b0, off, rfl, hblt, hc0⟩ := hLr.2 (by omega)
      have hrec := hLr.1 gs[k] (List.getElem_mem hkg)
      have hlen := hgB gs[k] (List.getElem_mem hkg)
      have hcell := hc0 k hkg
      have hlk : ls[k] = gs[k].l := by simp [hgl]
      obtain ⟨G, hG⟩ : ∃ G, G = gs[k] := ⟨_, rfl⟩
      rw [← hG] at hrec hlen hcell hlk
      obtain ⟨ga, gc, gl⟩ := G
      dsimp only at hrec hlen hcell hlk
      have hfew : Calls Try.prog 10 #[.slice ga gl.length gc, .int .i64 10] wr fun e w' => (∃ z, e = .returned (.bool z) ∧ FewAt 10 gl z) ∧ wr = w' := few_at 10 (by omega) ga gc gl wr hrec (by omega)
      have HFEW := Lib.hid hfew
      have HBODY := Lib.hid (refBody_any ga gc gl wr hrec hlen)
      have HK := Lib.hid (show ∃ h : k < ls.length, ls[k] = gl from ⟨hkl, hlk⟩)
      have hlI : (gl.length : Int) ≤ 900000 := by omega
      clear hgN hgB hgl hlN hkg hkl hLr hc0 hrec hlen hlk hG hfew
      go_wp2_with fail
      refine HFEW.out.mono ?_
      rintro e w2 ⟨⟨z, rfl, hz⟩, rfl⟩
      have HZ := Lib.hid hz
      clear hz HFEW
      go_wp2_with fail
      refine HBODY.out.mono ?_
      rintro e w2 ⟨hb2, hS⟩
      have HBW2 := Lib.hid (HM.out.2.2.2.trans (hb2.mono HM.out.2.2.2.size))
      rcases hS with ⟨hok, v, rfl, ho⟩ | ⟨hno, v, rfl⟩
      · obtain ⟨Z, hZ⟩ : ∃ Z, Z = Rec.body gl := ⟨_, rfl⟩
        have hbz : Bytes Z := by rw [hZ]; exact Rec.body_bytes _
        have hZ2 : Z.length ≤ 20000 := by rw [hZ]; exact hok.2.2
        rw [← hZ] at ho
        obtain ⟨a2, c2, rfl, hr2, hn2, -⟩ := own_nil_cap ho hbz
        have HFR := Lib.hid (refFrame_any a2 c2 Z w2 hr2 hn2 hZ2)
        have HO := Lib.hid (And.intro hok (And.intro hZ hbz))
        have HB2 := Lib.hid hb2
        clear ho hr2 hn2 hbz hok hZ hb2 HBODY
        rcases HZ.out with ⟨rfl, -, h10⟩ | ⟨rfl, -⟩
        · have H10 := Lib.hid h10
          obtain ⟨ZL, hZL⟩ : ∃ n, n = Z.length := ⟨_, rfl⟩
          rw [← hZL] at HFR hZ2 ⊢
          have HZL := Lib.hid hZL
          clear h10 hZL
          go_wp2_with fail
          refine HFR.out.mono ?_
          rintro e w3 ⟨v3, rfl, ho3, hb3⟩
          obtain ⟨a3, c3, rfl, hin3, -⟩ := in_of_own ho3 (frm_bytes HO.out.2.2)
          have hbr3 : Below wr.heap.size wr w3 := HB2.out.trans (hb3.mono HB2.out.size)
          have hob := ownsRow_but HM.out.1 (But.of_new hbr3 (S := fun _ => False)) (fun _ _ e => e)
          have hoe := ownsRow_but HM.out.2.1 (But.of_new hbr3 (S := fun _ => False)) (fun _ _ e => e)
          have hbw3 := HM.out.2.2.2.trans (hbr3.mono HM.out.2.2.2.size)
          rw [← HNB.out] at hob
          have H3 := Lib.hid (And.intro hob (And.intro hoe (And.intro hbw3 hin3)))
          clear ho3 hin3 hb3 hbr3 hob hoe hbw3
          go_wp2_with (first
            | (at_builtin; refine wpList_append_onto rfl (.tmp 54) (.tmp 56) _ rfl w.heap.size 5 i0 _ 1 1 Try.underlying22 hi0 hz0 hz1 hz2 rfl (by omega) (.slice ab nb cb) nb (cellsOf (frames (ls.take k))) rfl H3.out.1 (.slice a3 (ZL + 8) c3) (ZL + 8) (cellsOf (frm Z)) rfl (H3.out.2.2.2.row.sees H3.out.2.2.2.nil) (cellsOf_one _) (by simp only [maxLen]; omega) (by omega) H3.out.2.2.1.size ?_
               intro v4 w4 ho4 hon4
               rw [← cellsOf_append] at ho4
               obtain ⟨M, hM⟩ : ∃ M, M = nb + (ZL + 8) := ⟨_, rfl⟩
               rw [← hM] at ho4
               have hM9 : M ≤ 1000000 := by omega
               have HMM := Lib.hid hM
               obtain ⟨a4, c4, rfl, -, -⟩ := in_of_own ho4 (bytes_append (frames_bytes _) (frm_bytes HO.out.2.2))
               have H4 := Lib.hid (And.intro ho4 hon4)
               clear ho4 hon4 hM)
            | (at_builtin; refine wpList_append_onto rfl (.tmp 58) (.tmp 61) _ rfl w.heap.size 3 i1 _ 1 8 Try.underlying33 hi1 hy0 hy1 hy2 rfl (by omega) (.slice ae k ce) k (endsOf ls k) rfl (ownsRow_alloc (own_keep H3.out.1 H3.out.2.1 (by decide) H4.out.2) _) (.slice (some ⟨w4.heap.size, 0, none⟩) 1 1) 1 [.int .i64 ((M : Nat) : Int)] rfl (sees_one _ _ _ _) (by simp [Value.oneCell']) (by simp only [maxLen]; omega) (by omega) (by have := (H3.out.2.2.1.trans (H4.out.2.below H3.out.1 H3.out.2.2.1.size)).size; simp; omega) ?_
               intro v5 w5 ho5 hon5))
          obtain ⟨g5, c5, rfl⟩ : ∃ g c, v5 = .slice (some ⟨g, 0, none⟩) (k + 1) c := by
            rcases ho5.2 with ⟨_, h⟩ | ⟨g, cap, cur, hv, _⟩
            · omega
            · exact ⟨g, cap, hv⟩
          have hnx := made_next HK.out (by rw [← HNB.out]; exact H3.out.1) H3.out.2.1 HM.out.2.2.1 HO.out.1 H10.out H3.out.2.2.1 (by rw [← HNB.out, ← HO.out.2.1, ← HZL.out]; exact HMM.out) (by rw [← HO.out.2.1]; exact H4.out.1) H4.out.2 _ ho5 hon5
          have HNX := Lib.hid hnx
          clear ho5 hon5 hnx
          go_wp2_with fail
          go_roundw
          case rel => exact ⟨k + 1, a4, M, c4, _, c5, by omega, rfl, rfl, by go_num, HNX.out.2, by have := HMM.out; omega, HNX.out.1⟩
          case measure => simp [intOf]; omega
        · go_wp2_with fail
          go_ret
          exact ⟨rfl, HBW2.out⟩
      · rcases HZ.out with ⟨rfl, -, h10⟩ | ⟨rfl, -⟩
        · clear h10 hb2
          go_wp2_with fail
          go_ret
          exact ⟨rfl, HBW2.out⟩
        · clear hb2
          go_wp2_with fail
          go_ret
          exact ⟨rfl, HBW2.out⟩
    · have hkN : k = N := by omega
      subst hkN
      obtain ⟨hgN, hgB, hgl, hlN⟩ := HG.out
      have htk : ls.take k = ls := List.take_of_length_le (by omega)
      obtain ⟨hob, hoe, hall, hbw⟩ := HM.out
      rw [htk] at hob hall
      rw [← HNB.out] at hob
      have hiL : ∀ l ∈ ls, ∀ r ∈ l, Is r := by
        intro l hlm r hr
        rw [hgl] at hlm
        obtain ⟨g, hg, rfl⟩ := List.mem_map.1 hlm
        exact (HL.out.1 g hg).1 r hr
      obtain ⟨ab2, cb2, hab, hinb, hnz⟩ := in_of_own hob (frames_bytes ls)
      injection hab with hab1 hab2 hab3
      subst hab1 hab3
      clear hab2
      have hend : 0 < k → ∃ ge, ae = some ⟨ge, 0, none⟩ ∧ ∀ i, i < k → wr.cell? ⟨ge, i, none⟩ = some (.int .i64 ((upTo ls (i + 1) : Nat) : Int)) := by
        intro hk0
        rcases hoe.2 with ⟨_, h⟩ | ⟨ge, cap', cur, hv, _⟩
        · omega
        · injection hv with hv
          subst hv
          refine ⟨ge, rfl, fun i hi => ?_⟩
          have h1 := hoe.cellAt i (by omega)
          rw [endsOf_get ls k i hi] at h1
          exact h1
      obtain ⟨at_, hat⟩ : ∃ x, x = c % (nb + 1) := ⟨_, rfl⟩
      have hat2 : at_ ≤ nb := by rw [hat]; have := Nat.mod_lt c (show nb + 1 > 0 by omega); omega
      have hat1 : (c : Int) % ((nb : Int) + 1) = (at_ : Int) := by rw [hat]; push_cast; rfl
      obtain ⟨gb, rfl, -, -⟩ := hnz (by obtain ⟨n, hn⟩ := upTo_pos ls k (by omega) h0; rw [HNB.out, hn]; omega)
      have HE := Lib.hid hend
      have HF := Lib.hid (And.intro hall (And.intro hiL (And.intro hbw (And.intro hinb (And.intro hlN hgl)))))
      have hnb0 : nb ≤ 300120 := by omega
      clear hgN hgB hgl hlN htk hob hoe hall hbw hiL hinb hend hat HM hk hlt hnle
      go_wp2_with fail
      go_loopw [13, 14, 15] (fun v e i w2 => ∃ j want : Nat, j ≤ k ∧ want ≤ j ∧ i = .int .i64 (j : Int) ∧ v = .int .i64 (want : Int) ∧ e = .int .i64 ((upTo ls want : Nat) : Int) ∧ upTo ls want ≤ at_ ∧ (want < j → at_ < upTo ls (want + 1)) ∧ w2 = wr) (fun _ _ i _ => k - (intOf i).toNat)
      case atStart => exact ⟨0, 0, Nat.zero_le _, Nat.le_refl _, rfl, rfl, rfl, by simp [upTo], fun h => absurd h (by omega), rfl⟩
      case round =>
        obtain ⟨j, want, hj, hwj, rfl, rfl, rfl, hw1, hw2, rfl⟩ := hrel
        by_cases hjl : j < k
        · obtain ⟨ge, rfl, hce⟩ := HE.out (by omega)
          have hcj := hce j hjl
          obtain ⟨E, hE⟩ : ∃ E, E = upTo ls (j + 1) := ⟨_, rfl⟩
          rw [← hE] at hcj
          have HEE := Lib.hid hE
          have HW := Lib.hid (And.intro hw1 hw2)
          clear hE hw1 hw2 hce
          by_cases hle : E ≤ at_
          · have d1 : decide ((E : Int) ≤ (at_ : Int)) = true := decide_eq_true (by omega)
            go_wp2_with fail
            go_roundw
            case rel => exact ⟨j + 1, j + 1, by omega, Nat.le_refl _, by go_num, by go_num, by rw [HEE.out], by rw [← HEE.out]; exact hle, fun h => absurd h (by omega), by first | trivial | rfl⟩
            case measure => simp [intOf]; omega
          · have d1 : decide ((E : Int) ≤ (at_ : Int)) = false := decide_eq_false (by omega)
            go_wp2_with fail
            go_roundw
            case rel =>
              refine ⟨j + 1, want, by omega, by omega, by go_num, rfl, rfl, HW.out.1, fun h => ?_, by first | trivial | rfl⟩
              by_cases hwj2 : want < j
              · exact HW.out.2 hwj2
              · obtain rfl : want = j := by omega
                rw [← HEE.out]; omega
            case measure => simp [intOf]; omega
        · have hjk : j = k := by omega
          subst hjk
          obtain ⟨hall, hiL, hbw, hinb, hlN, hgl⟩ := HF.out
          have hok := fun l hl => (hall l hl).1
          have hwl : want ≤ ls.length := by omega
          have hw3 : want < ls.length → at_ < upTo ls (want + 1) := fun h => hw2 (by omega)
          have hinA := in_front hinb at_ hat2
          have hEn : upTo ls want ≤ nb := by omega
          have hinE := in_front hinb (upTo ls want) hEn
          have hsc := scan_any _ at_ cb _ _ hinA (by omega)
          have hsA : scan 0 ((frames ls).take at_) = piecesOf 0 (ls.take want) := by rw [scan_cut ls hok hiL, ahead_eq ls at_ want hwl hw1 hw3]
          have hwhA : isWhole ((frames ls).take at_) = (at_ == upTo ls want) := whole_cut hok hiL at_ want (by rw [hinb.row.1]; exact hat2) hwl hw1 hw3
          have hwhE := whole_told hok hiL want hwl
          have htot := total_pieces 0 ls want
          obtain ⟨E, hE⟩ : ∃ E, E = upTo ls want := ⟨_, rfl⟩
          unfold ScanSays at hsc
          rw [hsA, htot] at hsc
          rw [← hE] at hinE hsc hwhA hwhE hEn hw1 ⊢
          have hbE : ((at_ : Int) == (E : Int)) = (at_ == E) := by
            by_cases h : at_ = E
            · rw [h]; simp
            · have h1 : (at_ == E) = false := beq_eq_false_iff_ne.2 h
              rw [h1]
              exact beq_eq_false_iff_ne.2 (by omega)
          obtain ⟨d, hd⟩ : ∃ d, d = (at_ == E) := ⟨_, rfl⟩
          rw [← hd] at hwhA hbE
          have hdd : (d == d) = true := by simp
          have hnn : ((want : Int) != (want : Int)) = false := by simp
          have hnE : ((E : Int) != (E : Int)) = false := by simp
          have HSC := Lib.hid hsc
          have HWA := Lib.hid (fun w4 (hw : In w4 (some ⟨gb, 0, none⟩) at_ cb ((frames ls).take at_)) => whole_any _ at_ cb _ w4 hw (by omega))
          have HWE := Lib.hid (fun w4 (hw : In w4 (some ⟨gb, 0, none⟩) E cb ((frames ls).take E)) => whole_any _ E cb _ w4 hw (by omega))
          have HX := Lib.hid (And.intro hinA (And.intro hinE (And.intro hwhA hwhE)))
          have HY := Lib.hid (And.intro hbw (And.intro hwl (And.intro hlN hgl)))
          have hfit := hinb.fits
          have hsml := hinb.small
          simp only [maxLen] at hsml
          have hcI : (cb : Int) ≤ 9223372036854775807 := by omega
          have hatI : (at_ : Int) ≤ (cb : Int) := by omega
          have hEI : (E : Int) ≤ (cb : Int) := by omega
          have hw15 : want ≤ 15 := by omega
          clear hall hiL hbw hinb hlN hgl hok hwl hw3 hinA hinE hsc hsA hwhA hwhE htot hE hd hw1 hw2 hfit hsml HE HF HNB hwj hj hjl
          go_wp2_with fail
          refine HSC.out.mono ?_
          rintro e w3 ⟨hb3, ps, a3, c3, hps, rfl, hpc⟩
          have hpl : ps.length = want := by
            have := congrArg List.length hps
            rw [List.length_map, pieces_length, List.length_take] at this
            have := HY.out.2.1
            omega
          rw [hpl]
          have HX3 := Lib.hid (And.intro (HX.out.1.below hb3) (And.intro (HX.out.2.1.below hb3) (And.intro (HY.out.1.trans (hb3.mono HY.out.1.size)) (And.intro hpc (And.intro hpl hps)))))
          clear hb3 hps hpc hpl HSC
          go_wp2_with fail
          go_loopw [18] (fun i w4 => ∃ q m : Nat, q ≤ want ∧ i = .int .i64 (q : Int) ∧ w4 = w3.drewN m) (fun i _ => want - (intOf i).toNat)
          case atStart => exact ⟨0, 0, Nat.zero_le _, rfl, rfl⟩
          case round =>
            obtain ⟨q, m, hq, rfl, rfl⟩ := hrel
            by_cases hqw : q < want
            · obtain ⟨-, -, hbw3, hpc, hpl, hps⟩ := HX3.out
              obtain ⟨-, hwl, hlN, hgl⟩ := HY.out
              have hqp : q < ps.length := by omega
              have hql : q < ls.length := by omega
              have hqg : q < gs.length := by have := HG.out.1; omega
              have hqN := hql
              rw [hlN] at hqN
              have hL3 := HL.out.below hbw3
              obtain ⟨pb, po, rfl, -, hpcell⟩ := hpc.2 (by omega)
              obtain ⟨lb, lo, rfl, -, hlcell⟩ := hL3.2 (by omega)
              obtain ⟨-, -, e2⟩ := Pcs.cells hqp hpcell
              have f0 := hlcell q hqg
              have hr0 := hpc.1 ps[q] (List.getElem_mem hqp)
              have hr1 := hL3.1 gs[q] (List.getElem_mem hqg)
              have hlen := HG.out.2.1 gs[q] (List.getElem_mem hqg)
              have hpg : ps[q].p.l = gs[q].l := by
                have h1 := pieces_get 0 (ls.take want) q (by rw [List.length_take]; omega)
                rw [← hps] at h1
                have h2 : ((ps.map (·.p))[q]?).map (·.l) = some ps[q].p.l := by simp [hqp]
                rw [h2] at h1
                injection h1 with h1
                rw [h1, List.getElem_take]
                simp [hgl]
              obtain ⟨P, hP⟩ : ∃ P, P = ps[q] := ⟨_, rfl⟩
              obtain ⟨G, hG⟩ : ∃ G, G = gs[q] := ⟨_, rfl⟩
              rw [← hP] at hr0 e2 hpg
              rw [← hG] at hr1 f0 hlen hpg
              obtain ⟨⟨q1, q2, q3⟩, q4, q5⟩ := P
              obtain ⟨q6, q7, q8⟩ := G
              dsimp only at hr0 hr1 hlen e2 f0 hpg
              subst hpg
              have HSM := Lib.hid (fun u j (hu : u = w3.drewN j) => same_yes q4 q6 q5 q7 q3 u (hu ▸ Recs.below hr0 (below_drewN0 w3 j)) (hu ▸ Recs.below hr1 (below_drewN0 w3 j)) (by omega))
              have HC := Lib.hid (And.intro e2 f0)
              have hqI : (q : Int) < (want : Int) := by omega
              clear hbw3 hpc hpl hps hwl hlN hgl hqp hql hqg hL3 hpcell hlcell e2 f0 hr0 hr1 hlen hP hG
              go_wp2_with fail
              refine Late.region_goes (fun u => ∃ j, u = w3.drewN j) (fun _ => false) (by kernel_rfl) ?_ (fun hH => ?_)
              · exact ⟨m + 1, rfl⟩
              refine Late.Goes.take (i := 0) (v := ?_) (by simp only [List.getElem?_toArray, List.getElem?_cons_succ, List.getElem?_cons_zero]; rfl) (by kernel_rfl) (by kernel_rfl) (by kernel_rfl) (by kernel_rfl) (by exact fun _ _ _ h => h) (Or.inl ⟨by rfl, ?_⟩) hH ?_
              rotate_left
              · (intro wy hSw; (try dsimp only at hSw); go_simp; try (with_reducible rfl))
              try simp only [Act.put, List.setIfInBounds_toArray, List.set_cons_zero, List.set_cons_succ]
              refine Late.Goes.take (i := 1) (v := ?_) (by simp only [List.getElem?_toArray, List.getElem?_cons_succ, List.getElem?_cons_zero]; rfl) (by kernel_rfl) (by kernel_rfl) (by kernel_rfl) (by kernel_rfl) (by exact fun _ _ _ h => h) (Or.inl ⟨by rfl, ?_⟩) hH ?_
              rotate_left
              · (intro wy hSw; (try dsimp only at hSw); go_simp; try (with_reducible rfl))
              try simp only [Act.put, List.setIfInBounds_toArray, List.set_cons_zero, List.set_cons_succ]
              refine Late.Goes.take (i := 2) (v := ?_) (by simp only [List.getElem?_toArray, List.getElem?_cons_succ, List.getElem?_cons_zero]; rfl) (by kernel_rfl) (by kernel_rfl) (by kernel_rfl) (by kernel_rfl) (by exact fun _ _ _ h => h) (Or.inl ⟨by rfl, ?_⟩) hH ?_
              rotate_left
              · (intro wy hSw; (try dsimp only at hSw); go_simp; try (with_reducible rfl))
              try simp only [Act.put, List.setIfInBounds_toArray, List.set_cons_zero, List.set_cons_succ]
              refine Late.Goes.take (i := 3) (v := ?_) (by simp only [List.getElem?_toArray, List.getElem?_cons_succ, List.getElem?_cons_zero]; rfl) (by kernel_rfl) (by kernel_rfl) (by kernel_rfl) (by kernel_rfl) (by exact fun _ _ _ h => h) (Or.inl ⟨by rfl, ?_⟩) hH ?_
              rotate_left
              · (intro wy hSw; (try dsimp only at hSw); go_simp; try (with_reducible rfl))
              try simp only [Act.put, List.setIfInBounds_toArray, List.set_cons_zero, List.set_cons_succ]
              refine Late.Goes.take (i := 4) (v := ?_) (by simp only [List.getElem?_toArray, List.getElem?_cons_succ, List.getElem?_cons_zero]; rfl) (by kernel_rfl) (by kernel_rfl) (by kernel_rfl) (by kernel_rfl) (by exact fun _ _ _ h => h) (Or.inl ⟨by rfl, ?_⟩) hH ?_
              rotate_left
              · (intro wy hSw; (try dsimp only at hSw); obtain ⟨j, rfl⟩ := hSw; obtain ⟨e2, f0⟩ := HC.out; go_simp; try (with_reducible rfl))
              try simp only [Act.put, List.setIfInBounds_toArray, List.set_cons_zero, List.set_cons_succ]
              refine Late.Goes.take (i := 5) (v := ?_) (by simp only [List.getElem?_toArray, List.getElem?_cons_succ, List.getElem?_cons_zero]; rfl) (by kernel_rfl) (by kernel_rfl) (by kernel_rfl) (by kernel_rfl) (by exact fun _ _ _ h => h) (Or.inl ⟨by rfl, ?_⟩) hH ?_
              rotate_left
              · (intro wy hSw; (try dsimp only at hSw); go_simp; try (with_reducible rfl))
              try simp only [Act.put, List.setIfInBounds_toArray, List.set_cons_zero, List.set_cons_succ]
              refine Late.Goes.take (i := 6) (v := ?_) (by simp only [List.getElem?_toArray, List.getElem?_cons_succ, List.getElem?_cons_zero]; rfl) (by kernel_rfl) (by kernel_rfl) (by kernel_rfl) (by kernel_rfl) (by exact fun _ _ _ h => h) (Or.inl ⟨by rfl, ?_⟩) hH ?_
              rotate_left
              · (intro wy hSw; (try dsimp only at hSw); go_simp; try (with_reducible rfl))
              try simp only [Act.put, List.setIfInBounds_toArray, List.set_cons_zero, List.set_cons_succ]
              refine Late.Goes.take (i := 7) (v := ?_) (by simp only [List.getElem?_toArray, List.getElem?_cons_succ, List.getElem?_cons_zero]; rfl) (by kernel_rfl) (by kernel_rfl) (by kernel_rfl) (by kernel_rfl) (by exact fun _ _ _ h => h) (Or.inl ⟨by rfl, ?_⟩) hH ?_
              rotate_left
              · (intro wy hSw; (try dsimp only at hSw); go_simp; try (with_reducible rfl))
              try simp only [Act.put, List.setIfInBounds_toArray, List.set_cons_zero, List.set_cons_succ]
              refine Late.Goes.take (i := 8) (v := ?_) (by simp only [List.getElem?_toArray, List.getElem?_cons_succ, List.getElem?_cons_zero]; rfl) (by kernel_rfl) (by kernel_rfl) (by kernel_rfl) (by kernel_rfl) (by exact fun _ _ _ h => h) (Or.inl ⟨by rfl, ?_⟩) hH ?_
              rotate_left
              · (intro wy hSw; (try dsimp only at hSw); obtain ⟨j, rfl⟩ := hSw; obtain ⟨e2, f0⟩ := HC.out; go_simp; try (with_reducible rfl))
              try simp only [Act.put, List.setIfInBounds_toArray, List.set_cons_zero, List.set_cons_succ]
              refine Late.Goes.one (i := 9) (by kernel_rfl) (by simp only [List.getElem?_toArray, List.getElem?_cons_succ, List.getElem?_cons_zero]; rfl) (fun K hK => ?_)
              clear hH
              go_simp
              go_at_call 13
              refine (HSM.out _ (m + 1) rfl).mono ?_
              rintro e w4 ⟨rfl, j2, rfl⟩
              refine hK.out _ _ ?_ (fun hH => ?_)
              · exact fun _ => ⟨m + 1 + j2, World.drewN_drewN _ _ _⟩
              clear hK K
              have hH := hH rfl
              try simp only [Act.put, List.setIfInBounds_toArray, List.set_cons_zero, List.set_cons_succ]
              refine Late.Goes.take (i := 10) (v := ?_) (by simp only [List.getElem?_toArray, List.getElem?_cons_succ, List.getElem?_cons_zero]; rfl) (by kernel_rfl) (by kernel_rfl) (by kernel_rfl) (by kernel_rfl) (by exact fun _ _ _ h => h) (Or.inl ⟨by rfl, ?_⟩) hH ?_
              rotate_left
              · (intro wy hSw; (try dsimp only at hSw); go_simp; try (with_reducible rfl))
              try simp only [Act.put, List.setIfInBounds_toArray, List.set_cons_zero, List.set_cons_succ]
              refine Late.Goes.done (by kernel_rfl) ?_ _
              clear HC HSM hH
              have hj3 : (w3.drewN (m + 1)).drewN j2 = w3.drewN (m + 1 + j2) := World.drewN_drewN _ _ _
              rw [hj3]
              clear hj3
              go_wp2_with fail
              go_roundw
              case rel => exact ⟨q + 1, m + 1 + j2, by omega, by go_num, rfl⟩
              case measure => simp [intOf]; omega
            · have hqe : q = want := by omega
              subst hqe
              have hbd := below_drewN0 w3 m
              have hE4 := HWE.out _ (HX3.out.2.1.below hbd)
              rw [HX.out.2.2.2] at hE4
              have HE4 := Lib.hid hE4
              have HB4 := Lib.hid (HX3.out.2.2.1.trans (hbd.mono HX3.out.2.2.1.size))
              have HA4 := Lib.hid (HX3.out.1.below hbd)
              have HWQ := Lib.hid HX.out.2.2.1
              clear hbd hE4 HX3 HX HWE
              go_wp2_with fail
              refine HE4.out.mono ?_
              rintro e w5 ⟨rfl, hb5⟩
              have hA5 := HWA.out w5 (HA4.out.below hb5)
              rw [HWQ.out] at hA5
              have HA5 := Lib.hid hA5
              have HB5 := Lib.hid (HB4.out.trans (hb5.mono HB4.out.size))
              clear hb5 hA5 HA4 HE4
              go_wp2_with fail
              refine HA5.out.mono ?_
              rintro e w6 ⟨rfl, hb6⟩
              have HB6 := Lib.hid (HB5.out.trans (hb6.mono HB5.out.size))
              clear hb6 HA5
              go_wp2_with fail
              go_ret
              exact ⟨rfl, HB6.out⟩
set_option maxRecDepth 100000 in
set_option maxHeartbeats 1000000 in
theorem cuts_none (a : Option Addr) (cap c : Nat) (w : World) (hc : c ≤ 9223372036854775807) :
    Calls Try.prog 4 #[.slice a 0 cap, .int .i64 (c : Int)] w fun e w' => e = .returned (.bool true) ∧ Below w.heap.size w w' := by
  have t0 : decide ((c : Int) < 0) = false := by simp
  have hat1 : (c : Int) % 1 = 0 := by omega
  go_enter Try.func4, Try.ntmps4
  go_wp2_with fail
  refine (up_any w).mono ?_
  rintro e w1 ⟨rfl, hb1⟩
  have HB1 := Lib.hid hb1
  clear hb1
  go_wp2_with fail
  go_loopw [6, 7, 8, 9, 10, 11] (fun b e i _ _ _ wr => b = .slice none 0 0 ∧ e = .slice none 0 0 ∧ i = .int .i64 0 ∧ wr = w1) (fun _ _ _ _ _ _ _ => 0)
  case atStart => exact ⟨rfl, rfl, rfl, rfl⟩
  case round =>
    obtain ⟨rfl, rfl, rfl, rfl⟩ := hrel
    go_wp2_with fail
    go_loopw [13, 14, 15] (fun v e i w2 => v = .int .i64 0 ∧ e = .int .i64 0 ∧ i = .int .i64 0 ∧ w2 = wr) (fun _ _ _ _ => 0)
    case atStart => exact ⟨rfl, rfl, rfl, rfl⟩
    case round =>
      obtain ⟨rfl, rfl, rfl, rfl⟩ := hrel
      go_wp2_with fail
      refine (scan_any none 0 0 [] _ (Frame.in_nil _) (by omega)).mono ?_
      rintro e w3 ⟨hb3, ps, a3, c3, hps, rfl, _⟩
      rw [scan_nil] at hps
      obtain rfl : ps = [] := List.map_eq_nil_iff.1 hps
      rw [scan_nil]
      have ht : (((total ([] : List Pc)) : Nat) : Int) = 0 := rfl
      have hl0 : ([] : List Gp).length = 0 := rfl
      rw [ht, hl0]
      have HB3 := Lib.hid (HB1.out.trans (hb3.mono HB1.out.size))
      clear hb3 hps ht hl0
      go_wp2_with fail
      go_loopw [18] (fun i w4 => i = .int .i64 0 ∧ w4 = w3) (fun _ _ => 0)
      case atStart => exact ⟨rfl, rfl⟩
      case round =>
        obtain ⟨rfl, rfl⟩ := hrel
        go_wp2_with fail
        refine (whole_any none 0 0 [] _ (Frame.in_nil _) (by omega)).mono ?_
        rw [nil_whole]
        rintro e w5 ⟨rfl, hb5⟩
        have HB5 := Lib.hid (HB3.out.trans (hb5.mono HB3.out.size))
        clear hb5
        go_wp2_with fail
        refine (whole_any none 0 0 [] _ (Frame.in_nil _) (by omega)).mono ?_
        rw [nil_whole]
        rintro e w6 ⟨rfl, hb6⟩
        have HB6 := Lib.hid (HB5.out.trans (hb6.mono HB5.out.size))
        clear hb6
        go_wp2_with fail
        go_ret
        exact ⟨rfl, HB6.out⟩
end Go.Proofs.Ytgfhcbdhggnbaaa.Torn
