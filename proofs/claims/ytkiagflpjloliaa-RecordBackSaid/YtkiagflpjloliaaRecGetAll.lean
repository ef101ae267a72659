/- The records of a body: the walk of record.Get. -/
import Derived.Test.YtkiagflpjloliaaRecList
import Derived.Test.YtkiagflpjloliaaRecNext
import Derived.Test.YtkiagflpjloliaaErr
namespace Go.Proofs.Ytkiagflpjloliaa.Rec
open Go.Proofs.Ytkiagflpjloliaa.Mem Go.Proofs.Ytkiagflpjloliaa.Pack Go.Proofs.Ytkiagflpjloliaa.Err
open Go.ChangeShapes Go.WideShapes Go.ChangeAt Go.RowKit
set_option linter.unusedVariables false
set_option linter.unusedSimpArgs false

/- How much a reader has left, by its cell. -/
def leftOf (w : World) (p : Nat) : Nat :=
  match w.cell? ⟨p, 0, none⟩ with
  | some (.slice _ n _) => n
  | _ => 0
theorem leftOf_rd {w : World} {p D : Nat} {zs : List Int} {s : Bool} (h : Rd w p D zs s) : leftOf w p = zs.length := by
  obtain ⟨_, _, _, _, _, h6⟩ := h
  unfold leftOf
  rcases h6 with ⟨h6, rfl⟩ | ⟨off, cap, _, hc, _⟩
  · rw [h6]; rfl
  · rw [hc]
def GetSays (w : World) (zs : List Int) (e : Ending) (w' : World) : Prop :=
  Below w.heap.size w w' ∧ ((∃ l v, recsOf zs = some l ∧ e = .returned (.tuple #[v, .nilIface]) ∧ w'.ownsRow w.heap.size 27 14 v l.length (rcl l) ∧ (∀ r ∈ l, Is r)) ∨
    (recsOf zs = none ∧ e = .returned (.tuple #[.slice none 0 0, .iface 40 (.int .i64 2)])))
set_option maxHeartbeats 1000000 in
theorem recGet_none (a : Option Addr) (cap : Nat) (w : World) : Calls Try.prog 14 #[.slice a 0 cap] w fun e w' => GetSays w [] e w' := by
  go_enter Try.func14, Try.ntmps14
  go_wp2
  go_ret2
  exact ⟨Below.refl _ _, .inr ⟨rfl, rfl⟩⟩
set_option maxRecDepth 100000 in
set_option maxHeartbeats 4000000 in
theorem recGet_some (a : Option Addr) (cap : Nat) (zs : List Int) (w : World) (h : Row w a zs.length zs) (hn : a = none → cap = 0) (h0 : 0 < zs.length) (hl : zs.length ≤ 1000000) :
    Calls Try.prog 14 #[.slice a zs.length cap] w fun e w' => GetSays w zs e w' := by
  obtain ⟨i0, hi0, hz0, hz1, hz2⟩ := info_parts rec_info
  have hn0 : ((zs.length : Int) == 0) = false := beq_eq_false_iff_ne.2 (by omega)
  have hzb := h.2.1
  have hnew := new_any a zs.length cap zs w h hn (by omega)
  have hrz : recsOf zs = recs zs := if_neg (by omega)
  have HRZ := Lib.hid hrz
  clear h hn hrz
  obtain ⟨L, hL⟩ : ∃ L, L = zs.length := ⟨_, rfl⟩
  rw [← hL] at hnew hn0 ⊢
  have HL := Lib.hid hL
  have hL0 : 0 < L := by omega
  have hL1 : L ≤ 1000000 := by omega
  clear hL h0 hl
  go_enter Try.func14, Try.ntmps14
  go_wp2_with fail
  refine hnew.mono ?_
  rintro e w1 ⟨p, rfl, hp, D, hrd, hb1, hD1, hD2⟩
  have hp1 : p < w1.heap.size := World.block_lt_of_cell? w1 ⟨p, 1, none⟩ hrd.1
  have HRD := Lib.hid (And.intro hrd hb1)
  clear hrd hb1 hnew
  go_wp2_with fail
  go_loopw [4, 6] (fun v b wr => ∃ (done : List Rcd) (P : List Int) (va : Option Addr) (n vc : Nat), v = .slice va n vc ∧ n = done.length ∧ wr.ownsRow w.heap.size 27 14 (.slice va n vc) n (rcl done) ∧ (∀ k, (Value.slice va n vc).ownBlock = some k → p < k) ∧ Rd wr p D P false ∧ recs zs = (recs P).map (done ++ ·) ∧ (∀ r ∈ done, Is r) ∧ Below w.heap.size w wr ∧ n + P.length ≤ L ∧ p < wr.heap.size) (fun _ _ wr => leftOf wr p)
  case atStart =>
    refine ⟨[], zs, none, 0, 0, rfl, rfl, World.ownsRow_nil _ _ _ _, fun k hk => (by cases hk), HRD.out.1, ?_, fun r hr => absurd hr List.not_mem_nil, HRD.out.2, by have := HL.out; omega, hp1⟩
    cases recs zs <;> simp
  case round =>
    obtain ⟨done, P, va, n, vc, rfl, hnd, ho, hpk, hrd, heq, his, hb, hlen, hpw⟩ := hrel
    have HND := Lib.hid hnd
    clear hnd
    have hPB : Bytes P := hrd.2.2.2.2.1
    have HM0 := Lib.hid (leftOf_rd hrd)
    have hleft := left_any p P false wr hrd
    have H0 := Lib.hid (And.intro ho (And.intro hpk (And.intro hrd (And.intro heq (And.intro his hb)))))
    have hnx := next_any p D ⟨P, false⟩ hPB wr hrd hpw (by omega)
    obtain ⟨r, hr⟩ : ∃ r, r = first ⟨P, false⟩ := ⟨_, rfl⟩
    have hir : Is r := by rw [hr]; exact first_is hPB
    have hrecs : 0 < P.length → ∀ b, good ⟨P, false⟩ = b → (b = true → recs P = (recs (behind ⟨P, false⟩).zs).map (r :: ·)) ∧ (b = false → recs P = none) := by
      intro hpos b hb
      exact ⟨fun e => by rw [hr]; exact recs_good hpos (hb.trans e), fun e => recs_bad hpos (hb.trans e)⟩
    have hblt : 0 < P.length → (behind ⟨P, false⟩).zs.length < P.length := fun hpos => behind_lt ⟨P, false⟩ hpos
    have hgood : good ⟨P, false⟩ = (decide (May r) && !(behind ⟨P, false⟩).short) := by rw [hr]; rfl
    obtain ⟨Q, hQ⟩ : ∃ Q, Q = behind ⟨P, false⟩ := ⟨_, rfl⟩
    rw [← hr, ← hQ] at hnx
    rw [← hQ] at hrecs hblt hgood
    have hm := fun w => may_any r w
    simp only [rv, cells] at hnx hm
    have HX := Lib.hid (And.intro hir (And.intro hrecs (And.intro hblt hgood)))
    have HM := Lib.hid hm
    have HNX := Lib.hid hnx
    clear ho hpk hrd heq his hb hPB hr hir hrecs hblt hgood hQ hm hnx
    go_wp2_with fail
    refine hleft.mono ?_
    rintro e w2 ⟨rfl, rfl⟩
    clear hleft
    by_cases hP : P.length = 0
    · obtain ⟨ho, hpk, hrd, heq, his, hb⟩ := H0.out
      have HF : Hid (recsOf zs = some done ∧ wr.ownsRow w.heap.size 27 14 (.slice va n vc) n (rcl done) ∧ (∀ r ∈ done, Is r) ∧ Below w.heap.size w wr ∧ n = done.length) := by
        refine Lib.hid ⟨?_, ho, his, hb, HND.out⟩
        rw [HRZ.out, heq, List.eq_nil_of_length_eq_zero hP, recs_nil]
        simp
      clear ho hpk hrd heq his hb H0 HX HNX HM0
      rw [hP]
      clear hP hlen
      go_wp2_with fail
      go_ret2
      obtain ⟨h1, h2, h3, h4, h5⟩ := HF.out
      exact ⟨h4, .inl ⟨done, _, h1, rfl, by rw [← h5]; exact h2, h3⟩⟩
    · have hpos : 0 < P.length := by omega
      have hposI : (0 : Int) < (P.length : Int) := by omega
      go_wp2_with fail
      refine HNX.out.mono ?_
      rintro e w3 ⟨rfl, hr3, hb3⟩
      obtain ⟨ho, hpk, hrd, heq, his, hb⟩ := H0.out
      have ho3 := ownsRow_but ho hb3 (fun k hk e => by have := hpk k hk; omega)
      have hbw3 : Below w.heap.size w w3 := hb.trans (hb3.below hb.size (fun k hk => by omega))
      have hp3 : p < w3.heap.size := Nat.lt_of_lt_of_le hpw hb3.size
      have hrA : RdP p D (w3.alloc (.cells (cells r) 27)) Q := Rd.below hr3 ((Below.refl _ w3).alloc (Nat.le_refl _) _)
      have hsh := short_any p Q.zs Q.short _ hrA
      simp only [cells] at hsh
      obtain ⟨sh, hse⟩ : ∃ s, s = Q.short := ⟨_, rfl⟩
      rw [← hse] at hsh
      have HSE := Lib.hid hse
      have HSH := Lib.hid hsh
      have H3 := Lib.hid (And.intro ho3 (And.intro hbw3 (And.intro hp3 (And.intro hrA (And.intro hpk (And.intro heq his))))))
      have HNONE : Hid (good ⟨P, false⟩ = false → recsOf zs = none) := by
        refine Lib.hid (fun hg => ?_)
        rw [HRZ.out, heq, (HX.out.2.1 hpos false hg).2 rfl]
        rfl
      clear ho hpk hrd heq his hb ho3 hbw3 hp3 hrA hsh hse hr3 hb3 H0 HNX
      go_wp2_with fail
      refine HSH.out.mono ?_
      rintro e w4 ⟨rfl, rfl⟩
      have hbA : Below w.heap.size w (w3.alloc (.cells (cells r) 27)) := H3.out.2.1.alloc H3.out.2.1.size _
      have HBA := Lib.hid hbA
      clear hbA HSH
      cases sh
      rotate_left
      · have HN := Lib.hid (HNONE.out (by rw [HX.out.2.2.2, ← HSE.out]; simp))
        go_wp2_with fail
        go_ret2
        exact ⟨HBA.out, .inr ⟨HN.out, rfl⟩⟩
      · go_wp2_with fail
        refine (HM.out _).mono ?_
        rintro e w4 ⟨rfl, hb4⟩
        have hbw4 : Below w.heap.size w w4 := HBA.out.trans (hb4.mono HBA.out.size)
        have HB4 := Lib.hid hbw4
        by_cases hmr : May r
        rotate_left
        · rw [decide_eq_false hmr]
          have HN := Lib.hid (HNONE.out (by rw [HX.out.2.2.2, decide_eq_false hmr, Bool.false_and]))
          clear hb4 hbw4
          go_wp2_with fail
          go_ret2
          exact ⟨HB4.out, .inr ⟨HN.out, rfl⟩⟩
        · rw [decide_eq_true hmr]
          obtain ⟨ho3, hbw3, hp3, hrA, hpk, heq, his⟩ := H3.out
          have ho4 := ownsRow_but (ownsRow_alloc ho3 (.cells (cells r) 27)) (But.of_new hb4 (S := fun _ => False)) (fun _ _ e => e)
          have hbox4 : Blk w4 w3.heap.size 27 (cells r) := (Blk.new w3 27 (cells r)).but (But.of_new hb4 (S := fun _ => False)) (fun e => e)
          have hr4 : RdP p D w4 Q := Rd.below hrA hb4
          have hp4 : p < w4.heap.size := by have := hb4.size; simp at this; omega
          have HR4 := Lib.hid (And.intro hr4 hp4)
          have HO4 := Lib.hid ho4
          simp only [cells] at hbox4
          have HX4 := Lib.hid (show _ = _ from hbox4)
          have hgt : good ⟨P, false⟩ = true := by rw [HX.out.2.2.2, decide_eq_true hmr, ← HSE.out]; rfl
          have hnew : recs zs = (recs Q.zs).map ((done ++ [r]) ++ ·) := by
            rw [heq, (HX.out.2.1 hpos true hgt).1 rfl, Option.map_map]
            congr 1
            funext x
            simp
          have HNEW := Lib.hid hnew
          have HPK := Lib.hid hpk
          have HIS := Lib.hid his
          have hsz4 : w.heap.size ≤ w4.heap.size := hbw4.size
          clear ho3 hbw3 hp3 hrA hpk heq his ho4 hbox4 hr4 hp4 hgt hnew hb4 hbw4 H3 HBA HNONE
          go_wp2_with (first
            | (refine wpList_load_row rfl 27 _ rfl w3.heap.size rfl 27 _ (0, 0) _ HX4.out Try.underlying27 rfl rec_size ?_)
            | (at_builtin; refine wpList_append_onto rfl (.tmp 26) (.tmp 28) _ rfl w.heap.size 27 i0 _ 14 128 Try.underlying28 hi0 hz0 hz1 hz2 rfl (by omega) (.slice va n vc) n (rcl done) rfl (ownsRow_alloc HO4.out _) (.slice (some ⟨w4.heap.size, 0, none⟩) 1 1) 1 (cells r).toList rfl (sees_rec _ (cells r) (by simp [cells]) _ _ _ rfl) (cells_one r) (by simp only [maxLen]; omega) (by omega) (by simp; omega) ?_; intro v5 w5 ho5 hon5))
          rw [← rcl_snoc] at ho5
          obtain ⟨g, c5, rfl, hnc⟩ : ∃ g c, v5 = .slice (some ⟨g, 0, none⟩) (n + 1) c ∧ True := by
            rcases ho5.2 with ⟨_, h⟩ | ⟨g, cap, cur, hv, _⟩
            · omega
            · exact ⟨g, cap, hv, trivial⟩
          have hon := hon5.of_alloc (fun k hk => (HO4.out.lt k hk).2)
          have hr5 : Rd w5 p D Q.zs false := by
            have k := Rd.but (S := fun k => some k = (Value.slice va n vc).ownBlock) HR4.out.1 hon.but (fun e => by have := HPK.out p e.symm; omega) (fun e => by have := HPK.out D e.symm; omega)
            rw [← HSE.out] at k
            exact k
          have hb5 : Below w.heap.size w w5 := HB4.out.trans (hon.below HO4.out hsz4)
          have hp5 : p < w5.heap.size := Nat.lt_of_lt_of_le HR4.out.2 hon.grown.size
          have hpk5 : ∀ k, (Value.slice (some ⟨g, 0, none⟩) (n + 1) c5).ownBlock = some k → p < k := by
            intro k hk
            rcases hon.own with h1 | h1
            · exact HPK.out k (h1 ▸ hk)
            · have := h1 k hk; have := HR4.out.2; omega
          have hlt := HX.out.2.2.1 hpos
          have hm5 := leftOf_rd hr5
          have hm0 := HM0.out
          have H5 := Lib.hid (And.intro ho5 (And.intro hpk5 (And.intro hr5 (And.intro hb5 hp5))))
          clear ho5 hnc hon hon5 hr5 hb5 hp5 hpk5
          go_roundw
          case rel =>
            obtain ⟨ho5, hpk5, hr5, hb5, hp5⟩ := H5.out
            exact ⟨done ++ [r], Q.zs, _, n + 1, c5, rfl, by simp [HND.out], ho5, hpk5, hr5, HNEW.out, fun x hx => by
              rcases List.mem_append.1 hx with h | h
              · exact HIS.out x h
              · rw [List.mem_singleton.1 h]; exact HX.out.1, hb5, by omega, hp5⟩
          case measure => omega
theorem recGet_any (a : Option Addr) (cap : Nat) (zs : List Int) (w : World) (h : Row w a zs.length zs) (hn : a = none → cap = 0) (hl : zs.length ≤ 1000000) :
    Calls Try.prog 14 #[.slice a zs.length cap] w fun e w' => GetSays w zs e w' := by
  rcases Nat.eq_zero_or_pos zs.length with h0 | h0
  · have e := List.eq_nil_of_length_eq_zero h0
    subst e
    exact recGet_none a cap w
  · exact recGet_some a cap zs w h hn h0 hl
end Go.Proofs.Ytkiagflpjloliaa.Rec
