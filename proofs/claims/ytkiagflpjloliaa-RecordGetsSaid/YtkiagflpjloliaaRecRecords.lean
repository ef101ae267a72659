/- The records of a body as the document says: the walk of the reference's Records. -/
import Derived.Test.YtkiagflpjloliaaRecList
import Derived.Test.YtkiagflpjloliaaRecOne
namespace Go.Proofs.Ytkiagflpjloliaa.Rec
open Go.Proofs.Ytkiagflpjloliaa.Mem Go.Proofs.Ytkiagflpjloliaa.Pack
open Go.ChangeShapes Go.WideShapes Go.ChangeAt Go.RowKit
set_option linter.unusedVariables false
set_option linter.unusedSimpArgs false

theorem below_drewN {B : Nat} {w w' : World} (h : Below B w w') (n : Nat) : Below B w (w'.drewN n) := ⟨h.os, h.tape, h.output, h.size, h.block⟩
def leftR (w : World) (q : Nat) : Nat :=
  match w.cell? ⟨q, 0, none⟩, w.cell? ⟨q, 1, none⟩ with
  | some (.slice _ n _), some (.int _ k) => n - k.toNat
  | _, _ => 0
theorem leftR_rf {w : World} {q bd : Nat} {zs : List Int} (h : Rf w q bd zs false) : leftR w q = zs.length := by
  obtain ⟨B, at', a, cap, h0, h1, h2, f1, f2, hr, hlc, hcm, hB, hat, hne, hnil, hz⟩ := h
  rcases hz with ⟨h, _⟩ | ⟨_, rfl⟩
  · cases h
  · unfold leftR
    rw [h0, h1]
    simp
theorem rf_bytes {w : World} {q bd : Nat} {zs : List Int} {s : Bool} (h : Rf w q bd zs s) : Bytes zs := by
  obtain ⟨B, at', a, cap, h0, h1, h2, f1, f2, hr, hlc, hcm, hB, hat, hne, hnil, hz⟩ := h
  rcases hz with ⟨_, rfl⟩ | ⟨_, rfl⟩
  · exact bytes_nil
  · exact bytes_drop hr.2.1 _
def RecordsSays (w : World) (zs : List Int) (e : Ending) (w' : World) : Prop :=
  Below w.heap.size w w' ∧ ((∃ l v, recsOf zs = some l ∧ e = .returned (.tuple #[v, .bool true]) ∧ w'.ownsRow w.heap.size 27 14 v l.length (rcl l) ∧ (∀ r ∈ l, Is r)) ∨
    (recsOf zs = none ∧ e = .returned (.tuple #[.slice none 0 0, .bool false])))
set_option maxRecDepth 100000 in
set_option maxHeartbeats 4000000 in
theorem refRecords_any (a : Option Addr) (cap : Nat) (zs : List Int) (w : World) (h : Row w a zs.length zs) (hn : a = none → cap = 0) (hlc : zs.length ≤ cap) (hcm : cap ≤ maxLen) (hl : zs.length ≤ 1000000) :
    Calls Try.prog 15 #[.slice a zs.length cap] w fun e w' => RecordsSays w zs e w' := by
  obtain ⟨i0, hi0, hz0, hz1, hz2⟩ := info_parts rec_info
  have hbd : ∀ x, a = some x → 0 < zs.length → x.block < w.heap.size := by
    intro x hx hpos
    obtain ⟨b, off, he, hlt, _⟩ := h.2.2 hpos
    rw [hx] at he
    injection he with he
    rw [he]; exact hlt
  have hrf := rf_new w a zs cap h hlc hcm (by omega) hn w.heap.size hbd 61
  obtain ⟨L, hL⟩ : ∃ L, L = zs.length := ⟨_, rfl⟩
  rw [← hL] at hrf ⊢
  have HL := Lib.hid hL
  have hL1 : L ≤ 1000000 := by omega
  have HRF := Lib.hid hrf
  clear hL hl h hn hlc hcm hbd hrf
  go_enter Try.func15, Try.ntmps15
  go_wp2
  go_loopw [5, 6, 7] (fun v b c wr => ∃ (done : List Rcd) (P : List Int) (va : Option Addr) (n vc : Nat), v = .slice va n vc ∧ n = done.length ∧ wr.ownsRow w.heap.size 27 14 (.slice va n vc) n (rcl done) ∧ (∀ k, (Value.slice va n vc).ownBlock = some k → w.heap.size < k) ∧ Rf wr w.heap.size w.heap.size P false ∧ (P.length = 0 → zs.length = 0) ∧ (0 < P.length → recs zs = (recs P).map (done ++ ·)) ∧ (∀ r ∈ done, Is r) ∧ Below w.heap.size w wr ∧ n + P.length ≤ L ∧ w.heap.size < wr.heap.size) (fun _ _ _ wr => leftR wr w.heap.size)
  case atStart =>
    refine ⟨[], zs, none, 0, 0, rfl, rfl, World.ownsRow_nil _ _ _ _, fun k hk => (by cases hk), HRF.out, fun e => e, fun _ => ?_, fun r hr => absurd hr List.not_mem_nil, (Below.refl _ w).alloc (Nat.le_refl _) _, by have := HL.out; omega, by simp⟩
    cases recs zs <;> simp
  case round =>
    obtain ⟨done, P, va, n, vc, rfl, hnd, ho, hpk, hrd, hez, heq, his, hb, hlen, hpw⟩ := hrel
    have HND := Lib.hid hnd
    clear hnd
    have hPB : Bytes P := rf_bytes hrd
    have HM0 := Lib.hid (leftR_rf hrd)
    have H0 := Lib.hid (And.intro ho (And.intro hpk (And.intro hez (And.intro heq (And.intro his hb)))))
    have hnx := one_any w.heap.size w.heap.size ⟨P, false⟩ hPB wr hrd hpw (by omega)
    obtain ⟨r, hr⟩ : ∃ r, r = first ⟨P, false⟩ := ⟨_, rfl⟩
    have hir : Is r := by rw [hr]; exact first_is hPB
    have hrecs : 0 < P.length → ∀ b, good ⟨P, false⟩ = b → (b = true → recs P = (recs (behind ⟨P, false⟩).zs).map (r :: ·)) ∧ (b = false → recs P = none) := by
      intro hpos b hb
      exact ⟨fun e => by rw [hr]; exact recs_good hpos (hb.trans e), fun e => recs_bad hpos (hb.trans e)⟩
    have hblt : 0 < P.length → (behind ⟨P, false⟩).zs.length < P.length := fun hpos => behind_lt ⟨P, false⟩ hpos
    have hgsh : good ⟨P, false⟩ = true → (behind ⟨P, false⟩).short = false := by
      intro e
      unfold good at e
      cases hs : (behind ⟨P, false⟩).short
      · rfl
      · rw [hs] at e; simp at e
    have hgpos : good ⟨P, false⟩ = true → 0 < P.length := by
      intro e
      rcases Nat.eq_zero_or_pos P.length with h0 | h0
      · rw [List.eq_nil_of_length_eq_zero h0, good_nil] at e
        cases e
      · exact h0
    obtain ⟨Q, hQ⟩ : ∃ Q, Q = behind ⟨P, false⟩ := ⟨_, rfl⟩
    obtain ⟨gd, hgd⟩ : ∃ g, g = good ⟨P, false⟩ := ⟨_, rfl⟩
    rw [← hr, ← hQ, ← hgd] at hnx
    rw [← hQ] at hrecs hblt hgsh
    have hrec2 : 0 < P.length → (gd = true → recs P = (recs Q.zs).map (r :: ·)) ∧ (gd = false → recs P = none) := fun hpos => hrecs hpos gd hgd.symm
    rw [← hgd] at hgsh hgpos
    simp only [rv, cells] at hnx
    have HX := Lib.hid (And.intro hir (And.intro hrec2 (And.intro hblt (And.intro hgsh hgpos))))
    have HNX := Lib.hid hnx
    clear ho hpk hrd hez heq his hb hPB hr hir hrecs hrec2 hblt hgsh hgpos hQ hgd hnx
    go_wp2_with fail
    refine HNX.out.mono ?_
    rintro e w3 ⟨rfl, hr3, hb3⟩
    obtain ⟨ho, hpk, hez, heq, his, hb⟩ := H0.out
    have ho3 := ownsRow_but ho hb3 (fun k hk e => by have := hpk k hk; omega)
    have hbw3 : Below w.heap.size w w3 := hb.trans (hb3.below hb.size (fun k hk => by omega))
    have hp3 : w.heap.size < w3.heap.size := Nat.lt_of_lt_of_le hpw hb3.size
    cases gd
    · have hnone : recsOf zs = none := by
        rcases Nat.eq_zero_or_pos P.length with h0 | h0
        · exact if_pos (hez h0)
        · have hzl : zs.length ≠ 0 := by
            intro e
            have e2 := List.eq_nil_of_length_eq_zero e
            have e3 := HL.out
            omega
          rw [recsOf, if_neg hzl, heq h0, (HX.out.2.1 h0).2 rfl]
          rfl
      have HN := Lib.hid (And.intro hnone (hbw3.alloc hbw3.size (.cells (cells r) 27)))
      clear ho hpk hez heq his hb ho3 hbw3 hnone hb3 hr3 H0 HNX
      go_wp2_with fail
      go_ret2
      exact ⟨HN.out.2, .inr ⟨HN.out.1, rfl⟩⟩
    · have hpos := HX.out.2.2.2.2 rfl
      have hsh := HX.out.2.2.2.1 rfl
      have hnew : recs zs = (recs Q.zs).map ((done ++ [r]) ++ ·) := by
        rw [heq hpos, (HX.out.2.1 hpos).1 rfl, Option.map_map]
        congr 1
        funext x
        simp
      have hzl : zs.length ≠ 0 := by
        have e3 := HL.out
        omega
      have HNEW := Lib.hid (And.intro hnew hzl)
      have HO3 := Lib.hid ho3
      have HR3 := Lib.hid (And.intro hr3 hsh)
      have HPK := Lib.hid hpk
      have HIS := Lib.hid his
      have HB3 := Lib.hid hbw3
      have hsz3 : w.heap.size ≤ w3.heap.size := hbw3.size
      clear ho hpk hez heq his hb ho3 hbw3 hnew hzl hb3 hr3 hsh H0 HNX
      go_wp2_with (at_builtin; refine wpList_append_onto rfl (.tmp 18) (.tmp 20) _ rfl w.heap.size 27 i0 _ 14 128 Try.underlying28 hi0 hz0 hz1 hz2 rfl (by omega) (.slice va n vc) n (rcl done) rfl (ownsRow_alloc (ownsRow_alloc HO3.out _) _) (.slice (some ⟨w3.heap.size + 1, 0, none⟩) 1 1) 1 (cells r).toList rfl (sees_rec _ (cells r) (by simp [cells]) _ _ _ (by simp)) (cells_one r) (by simp only [maxLen]; omega) (by omega) (by simp; omega) ?_; intro v5 w5 ho5 hon5)
      rw [← rcl_snoc] at ho5
      obtain ⟨g, c5, rfl, hnc⟩ : ∃ g c, v5 = .slice (some ⟨g, 0, none⟩) (n + 1) c ∧ True := by
        rcases ho5.2 with ⟨_, h⟩ | ⟨g, cap, cur, hv, _⟩
        · omega
        · exact ⟨g, cap, hv, trivial⟩
      have hon := (hon5.of_alloc (fun k hk => by have := (HO3.out.lt k hk).2; simp; omega)).of_alloc (fun k hk => (HO3.out.lt k hk).2)
      have hr5 : Rf w5 w.heap.size w.heap.size Q.zs false := by
        have k := Rf.but (S := fun k => some k = (Value.slice va n vc).ownBlock) HR3.out.1 hon.but (fun e => by have := HPK.out _ e.symm; omega) (fun k hk e => by have := HPK.out k e.symm; omega)
        rw [HR3.out.2] at k
        exact k
      have hb5 : Below w.heap.size w w5 := HB3.out.trans (hon.below HO3.out hsz3)
      have hp5 : w.heap.size < w5.heap.size := Nat.lt_of_lt_of_le hp3 hon.grown.size
      have hpk5 : ∀ k, (Value.slice (some ⟨g, 0, none⟩) (n + 1) c5).ownBlock = some k → w.heap.size < k := by
        intro k hk
        rcases hon.own with h1 | h1
        · exact HPK.out k (h1 ▸ hk)
        · have := h1 k hk; omega
      have hlt := HX.out.2.2.1 hpos
      have hm5 := leftR_rf hr5
      have hm0 := HM0.out
      have hleft := refLeft_any w.heap.size Q.zs false w5 hr5
      have his5 : ∀ x ∈ done ++ [r], Is x := fun x hx => by
        rcases List.mem_append.1 hx with h | h
        · exact HIS.out x h
        · rw [List.mem_singleton.1 h]; exact HX.out.1
      have H5 := Lib.hid (And.intro ho5 (And.intro hpk5 (And.intro hr5 (And.intro hb5 (And.intro hp5 his5)))))
      have HLF := Lib.hid hleft
      have HMM := Lib.hid (And.intro hm5 hm0)
      clear ho5 hnc hon hon5 hr5 hb5 hp5 hpk5 hleft his5 hm5 hm0
      go_wp2_with fail
      refine HLF.out.mono ?_
      rintro e w6 ⟨rfl, m, rfl⟩
      by_cases hz : Q.zs.length = 0
      · have hF : recsOf zs = some (done ++ [r]) := by
          rw [recsOf, if_neg HNEW.out.2, HNEW.out.1, List.eq_nil_of_length_eq_zero hz, recs_nil]
          simp
        have HF := Lib.hid hF
        clear hF
        rw [hz]
        clear hz hlt
        go_wp2_with fail
        go_ret2
        obtain ⟨ho5, hpk5, hr5, hb5, hp5, his5⟩ := H5.out
        have e1 : (done ++ [r]).length = n + 1 := by simp [HND.out]
        exact ⟨below_drewN hb5 m, .inl ⟨done ++ [r], _, HF.out, rfl, by rw [e1]; exact ho5, his5⟩⟩
      · have hzI : ((Q.zs.length : Int) == 0) = false := beq_eq_false_iff_ne.2 (by omega)
        go_wp2_with fail
        go_roundw
        case rel =>
          obtain ⟨ho5, hpk5, hr5, hb5, hp5, his5⟩ := H5.out
          exact ⟨done ++ [r], Q.zs, _, n + 1, c5, rfl, by simp [HND.out], ho5, hpk5, Rf.drewN hr5 m, fun e => absurd e hz, fun _ => HNEW.out.1, his5, below_drewN hb5 m, by omega, hp5⟩
        case measure =>
          have e1 := leftR_rf (Rf.drewN H5.out.2.2.1 m)
          have e2 := HMM.out.2
          omega
end Go.Proofs.Ytkiagflpjloliaa.Rec
