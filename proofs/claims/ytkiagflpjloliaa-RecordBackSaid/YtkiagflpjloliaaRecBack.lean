/- RecordBack: the walk of the law. -/
import Derived.Test.YtkiagflpjloliaaRecUp
import Derived.Test.YtkiagflpjloliaaRecFew
import Derived.Test.YtkiagflpjloliaaRecGetAll
import Derived.Test.YtkiagflpjloliaaRecTurns
namespace Go.Proofs.Ytkiagflpjloliaa.Rec
open Go.Proofs.Ytkiagflpjloliaa.Mem Go.Proofs.Ytkiagflpjloliaa.Pack Go.Proofs.Ytkiagflpjloliaa.Err
open Go.ChangeShapes Go.WideShapes Go.ChangeAt Go.RowKit
set_option linter.unusedVariables false
set_option linter.unusedSimpArgs false

theorem below_drewN' {B : Nat} {w w' : World} (h : Below B w w') (n : Nat) : Below B w (w'.drewN n) := ⟨h.os, h.tape, h.output, h.size, h.block⟩
theorem body_cons (r : Rcd) (l : List Rcd) : body (r :: l) = bytesOf r ++ body l := rfl
theorem recs_of_body (l : List Rcd) (hm : ∀ r ∈ l, May r) (hi : ∀ r ∈ l, Is r) : recs (body l) = some l := by
  induction l with
  | nil => exact recs_nil
  | cons r l ih =>
    have h1 := hm r List.mem_cons_self
    have h2 := hi r List.mem_cons_self
    obtain ⟨e1, e2⟩ := front_any r h1 h2 (body l)
    have hl := (bytesOf_len h1).1
    have hg : good ⟨bytesOf r ++ body l, false⟩ = true := by
      unfold good
      rw [e1, e2, decide_eq_true h1]
      rfl
    rw [body_cons, recs_good (by rw [List.length_append]; omega) hg, e1, e2, ih (fun x hx => hm x (List.mem_cons_of_mem _ hx)) (fun x hx => hi x (List.mem_cons_of_mem _ hx))]
    rfl
theorem body_of_recs (m : List Rcd) : ∀ (zs : List Int), Bytes zs → recs zs = some m → body m = zs ∧ ∀ r ∈ m, May r := by
  induction m with
  | nil =>
    intro zs hB h
    rcases Nat.eq_zero_or_pos zs.length with h0 | h0
    · rw [List.eq_nil_of_length_eq_zero h0]
      exact ⟨rfl, fun r hr => absurd hr List.not_mem_nil⟩
    · exfalso
      cases hg : good ⟨zs, false⟩
      · rw [recs_bad h0 hg] at h; cases h
      · rw [recs_good h0 hg] at h
        cases hq : recs (behind ⟨zs, false⟩).zs with
        | none => rw [hq] at h; simp at h
        | some m => rw [hq] at h; simp at h
  | cons r m ih =>
    intro zs hB h
    rcases Nat.eq_zero_or_pos zs.length with h0 | h0
    · rw [List.eq_nil_of_length_eq_zero h0, recs_nil] at h
      simp at h
    · cases hg : good ⟨zs, false⟩
      · rw [recs_bad h0 hg] at h; cases h
      · rw [recs_good h0 hg] at h
        cases hq : recs (behind ⟨zs, false⟩).zs with
        | none => rw [hq] at h; simp at h
        | some m' =>
          rw [hq] at h
          simp only [Option.map_some, Option.some.injEq, List.cons.injEq] at h
          obtain ⟨hr, hmm⟩ := h
          subst hmm
          unfold good at hg
          rw [Bool.and_eq_true, decide_eq_true_iff] at hg
          have hsh : (behind ⟨zs, false⟩).short = false := by simpa using hg.2
          have e := back_any ⟨zs, false⟩ hB hg.1 hsh
          obtain ⟨h1, h2⟩ := ih _ (behind_bytes hB) hq
          rw [body_cons, h1, ← hr]
          exact ⟨e.symm, fun x hx => by
            rcases List.mem_cons.1 hx with h | h
            · rw [h]; exact hg.1
            · exact h2 x h⟩
theorem ok_of_recsOf {zs : List Int} (hB : Bytes zs) (hl : zs.length ≤ 20000) {m : List Rcd} (h : recsOf zs = some m) : okBody m ∧ body m = zs := by
  unfold recsOf at h
  split at h
  · cases h
  · rename_i h0
    obtain ⟨h1, h2⟩ := body_of_recs m zs hB h
    refine ⟨⟨?_, h2, by rw [h1]; exact hl⟩, h1⟩
    rcases Nat.eq_zero_or_pos m.length with h3 | h3
    · rw [List.eq_nil_of_length_eq_zero h3] at h1
      have : zs = [] := h1.symm
      rw [this] at h0
      exact absurd rfl h0
    · exact h3
theorem recsOf_body {l : List Rcd} (hok : okBody l) (hi : ∀ r ∈ l, Is r) : recsOf (body l) = some l := by
  have h := recs_of_body l hok.2.1 hi
  unfold recsOf
  rw [if_neg, h]
  intro e
  have e2 := List.eq_nil_of_length_eq_zero e
  rw [e2, recs_nil] at h
  injection h with h
  have := hok.1
  rw [← h] at this
  simp at this
theorem own_nil_cap {w : World} {base n : Nat} {e : TypeId} {v : Value} {xs : List Int} (h : w.ownsRow base e 1 v n (cellsOf xs)) (hb : Bytes xs) : ∃ a cap, v = .slice a xs.length cap ∧ Row w a xs.length xs ∧ (a = none → cap = 0) ∧ n = xs.length := by
  obtain ⟨a, cap, rfl, hr, hl, hD⟩ := own_shape h hb
  subst hl
  refine ⟨a, cap, rfl, hr, fun hn => ?_, rfl⟩
  rcases hD with ⟨_, h, _⟩ | ⟨g, h, _⟩
  · exact h
  · rw [hn] at h; cases h
theorem body_le2 {l : List Rcd} (h : ∀ r ∈ l, May r) : 6 * l.length ≤ (body l).length := by
  induction l with
  | nil => simp [body]
  | cons r l ih =>
    have h1 := bytesOf_len (h r List.mem_cons_self)
    have h2 := ih (fun x hx => h x (List.mem_cons_of_mem _ hx))
    rw [body_cons, List.length_append, List.length_cons]
    omega
set_option maxRecDepth 100000 in
set_option maxHeartbeats 4000000 in
theorem back_law (a : Option Addr) (cap : Nat) (l : List Rcd) (ab : Option Addr) (lb capb : Nat) (zs : List Int) (w : World) (h : Recs w a l) (hl : l.length ≤ 9223372036854775807) (hb : Row w ab lb zs ∨ 20000 < lb) (hn : ab = none → capb = 0) (hlb9 : lb ≤ 9223372036854775807) :
    Calls Try.prog 5 #[.slice a l.length cap, .slice ab lb capb] w fun e w' => e = .returned (.bool true) ∧ Below w.heap.size w w' := by
  have HL := Lib.hid h
  have HB00 := Lib.hid (And.intro hb hn)
  clear h hb hn
  go_enter Try.func5, Try.ntmps5
  go_wp2_with fail
  refine (up_any _).mono ?_
  rintro e w1 ⟨rfl, hb1⟩
  have HL1 := Lib.hid (HL.out.below hb1)
  have HB1 := Lib.hid hb1
  clear hb1
  go_wp2_with fail
  refine (few_any a cap l w1 HL1.out hl).mono ?_
  rintro e w2 ⟨⟨z, rfl, hz⟩, rfl⟩
  rcases hz with ⟨rfl, hs, h40⟩ | ⟨rfl, -⟩
  rotate_left
  · go_wp2_with fail
    go_ret
    exact ⟨rfl, HB1.out⟩
  by_cases hlb : 20000 < lb
  · have d1 : decide (20000 < (lb : Int)) = true := decide_eq_true (by omega)
    go_wp2_with fail
    go_ret
    exact ⟨rfl, HB1.out⟩
  have d1 : decide (20000 < (lb : Int)) = false := decide_eq_false (by omega)
  have hlb : lb ≤ 20000 := by omega
  have hrow0 : Row w ab lb zs := by
    rcases HB00.out.1 with h | h
    · exact h
    · omega
  have HB0 := Lib.hid (And.intro hrow0 HB00.out.2)
  have HLB := Lib.hid (show lb = zs.length from hrow0.1.symm)
  have HPL := Lib.hid (recPut_any a cap l w1 HL1.out (by omega))
  clear hs hrow0 HB00
  go_wp2_with fail
  refine HPL.out.mono ?_
  rintro e w3 ⟨hb3, hP⟩
  have HB3 := Lib.hid (HB1.out.trans (hb3.mono HB1.out.size))
  clear hb3 HPL
  rcases hP with ⟨hok, v3, rfl, ho3⟩ | ⟨hno, rfl⟩
  rotate_left
  · have HBT := HB3
    clear hno
    have hrowb := HB0.out.1.below HBT.out
    have hgb := recGet_any ab capb zs w3 (by rw [← HLB.out]; exact hrowb) HB0.out.2 (by rw [← HLB.out]; omega)
    rw [← HLB.out] at hgb
    have HGB := Lib.hid hgb
    clear hrowb hgb
    go_wp2_with fail
    refine HGB.out.mono ?_
    rintro e wg ⟨hbg, hS⟩
    have HBG := Lib.hid (HBT.out.trans (hbg.mono HBT.out.size))
    clear hbg HGB HBT
    rcases hS with ⟨m, v, hso, rfl, ho, his⟩ | ⟨hso, rfl⟩
    · obtain ⟨am, cm, rfl, hrm, hcm⟩ := recs_of_own ho his
      obtain ⟨hokm, hbm⟩ := ok_of_recsOf HB0.out.1.2.1 (by rw [← HLB.out]; exact hlb) hso
      have hml : m.length ≤ 1000000000 := by
        have h1 := (body_le2 hokm.2.1)
        have h2 := hokm.2.2
        omega
      have HPM := Lib.hid (recPut_any am cm m wg hrm hml)
      have HOKM := Lib.hid (And.intro hokm hbm)
      clear ho his hrm hso hokm hbm
      go_wp2_with fail
      refine HPM.out.mono ?_
      rintro e wh ⟨hbh, ⟨_, vy, rfl, hoy⟩ | ⟨hno, _⟩⟩
      · obtain ⟨ay, cy, rfl, hry, -, -⟩ := own_shape hoy (body_bytes m)
        have HBH := Lib.hid (HBG.out.trans (hbh.mono HBG.out.size))
        have hrb := HB0.out.1.below HBH.out
        have ey : (body m).length = lb := by rw [HOKM.out.2]; exact HLB.out.symm
        rw [HOKM.out.2] at hry
        have hs1 := fun dst hd => run_string_row (P := Try.prog) hry 33 5 dst Try.underlying33 Try.underlying5 hd cy
        have hs2 := fun dst hd => run_string_row (P := Try.prog) hrb 33 5 dst Try.underlying33 Try.underlying5 hd capb
        obtain ⟨S, hS⟩ : ∃ S, S = strOfNums zs := ⟨_, rfl⟩
        rw [← hS] at hs1 hs2
        rw [← HLB.out] at hs1
        rw [ey]
        clear hbh hoy hry hrb ey hS HPM
        go_wp2_with fail
        go_ret
        exact ⟨rfl, HBH.out⟩
      · exact absurd HOKM.out.1 hno
    · clear hso
      go_wp2_with fail
      go_ret
      exact ⟨rfl, HBG.out⟩
  · obtain ⟨ax, cx, rfl, hrx, hnx, -⟩ := own_nil_cap ho3 (body_bytes l)
    have hXL := hok.2.2
    have hgx := recGet_any ax cx (body l) w3 hrx hnx (by omega)
    have hrb := recsOf_body hok HL.out.1
    have h6 := body_le2 hok.2.1
    obtain ⟨X, hX⟩ : ∃ X, X = (body l).length := ⟨_, rfl⟩
    rw [← hX] at hgx hXL h6 ⊢
    have HXX := Lib.hid hX
    have HGX := Lib.hid hgx
    have HOK := Lib.hid (And.intro hok hrb)
    clear ho3 hrx hnx hgx hok hrb hX
    go_wp2_with fail
    refine HGX.out.mono ?_
    rintro e w4 ⟨hb4, ⟨m, v, hso, rfl, ho, his⟩ | ⟨hno, _⟩⟩
    rotate_left
    · rw [HOK.out.2] at hno; cases hno
    have hml : m = l := by rw [HOK.out.2] at hso; injection hso with h; exact h.symm
    subst hml
    obtain ⟨am, cm, rfl, hrm, hcm⟩ := recs_of_own ho his
    have HB4 := Lib.hid (HB3.out.trans (hb4.mono HB3.out.size))
    have HSM := Lib.hid (same_yes am a cm cap m w4 hrm (HL.out.below HB4.out) hl)
    clear hb4 ho his hso hrm HGX HB3 HB1 HL1
    go_wp2_with fail
    refine HSM.out.mono ?_
    rintro e w5 ⟨rfl, md, rfl⟩
    clear HSM
    go_wp2_with fail
    go_loopw [11, 12] (fun s i wr => ∃ k S : Nat, k ≤ m.length ∧ i = .int .i64 (k : Int) ∧ s = .int .i64 (S : Int) ∧ Hid (S = (body (m.take k)).length + 8 * k) ∧ S ≤ 1098 * k ∧ Below w.heap.size w wr) (fun _ i _ => m.length - (intOf i).toNat)
    case atStart => exact ⟨0, 0, Nat.zero_le _, rfl, rfl, Lib.hid rfl, Nat.zero_le _, below_drewN' HB4.out md⟩
    case round =>
      obtain ⟨k, S, hk, rfl, rfl, hS, hSle, hbr⟩ := hrel
      have HBT := Lib.hid hbr
      clear hbr
      by_cases hlt : k < m.length
      · obtain ⟨hi, b, off, rfl, hblt, hc⟩ : (∀ r ∈ m, Is r) ∧ ∃ b off, a = some ⟨b, off, none⟩ ∧ b < wr.heap.size ∧ ∀ i (h : i < m.length) j u, (cells m[i])[j]? = some u → wr.cell? ⟨b, off + i * 14 + j, none⟩ = some u := by
          have h := HL.out.below HBT.out
          exact ⟨h.1, h.2 (by omega)⟩
        have hck := fun j u (hu : (cells m[k])[j]? = some u) => hc k hlt j u hu
        have his := hi m[k] (List.getElem_mem hlt)
        have hmr := HOK.out.1.2.1 m[k] (List.getElem_mem hlt)
        have hsn := body_snoc m k hlt
        obtain ⟨r, hr⟩ : ∃ r, r = m[k] := ⟨_, rfl⟩
        rw [← hr] at hck his hmr hsn
        have hcost := cost_any r his wr
        have hce : costOf r = (((bytesOf r).length + 8 : Nat) : Int) := if_pos hmr
        have hbl := bytesOf_len hmr
        rw [hce] at hcost
        obtain ⟨c, hcc⟩ : ∃ c, c = (bytesOf r).length + 8 := ⟨_, rfl⟩
        rw [← hcc] at hcost
        obtain ⟨e0, e1, e2, e3, e4, e5, e6, e7, e8, e9, e10, e11, e12, e13⟩ := cells_at hck
        simp only [rv, cells] at hcost
        have HCO := Lib.hid hcost
        have HSN := Lib.hid (And.intro hsn hcc)
        have hcle : c ≤ 1098 := by omega
        clear hck his hmr hsn hr hcost hce hbl hcc hi hc
        go_wp2_with fail
        refine HCO.out.mono ?_
        rintro e w6 ⟨rfl, hb6⟩
        have HB6 := Lib.hid (HBT.out.trans (hb6.mono HBT.out.size))
        clear hb6 HCO e0 e1 e2 e3 e4 e5 e6 e7 e8 e9 e10 e11 e12 e13
        go_wp2_with fail
        go_roundw
        case rel => exact ⟨k + 1, S + c, by omega, by go_num, by go_num, Lib.hid (by rw [HSN.out.1, List.length_append, hS.out, HSN.out.2]; omega), by omega, HB6.out⟩
        case measure => simp [intOf]; omega
      · have hkl : k = m.length := by omega
        have hSX : S = X + 8 * m.length := by rw [hS.out, HXX.out, List.take_of_length_le (by omega), hkl]
        have hm0 := HOK.out.1.1
        have hge : ¬ ((S : Int) < (X : Int) + 8) := by omega
        clear hSX hS hlt hk
        subst hkl
        go_wp2_with fail
        have hrowb := HB0.out.1.below HBT.out
        have hgb := recGet_any ab capb zs wr (by rw [← HLB.out]; exact hrowb) HB0.out.2 (by rw [← HLB.out]; omega)
        rw [← HLB.out] at hgb
        have HGB := Lib.hid hgb
        clear hrowb hgb
        go_wp2_with fail
        refine HGB.out.mono ?_
        rintro e wg ⟨hbg, hS⟩
        have HBG := Lib.hid (HBT.out.trans (hbg.mono HBT.out.size))
        clear hbg HGB HBT
        rcases hS with ⟨m, v, hso, rfl, ho, his⟩ | ⟨hso, rfl⟩
        · obtain ⟨am, cm, rfl, hrm, hcm⟩ := recs_of_own ho his
          obtain ⟨hokm, hbm⟩ := ok_of_recsOf HB0.out.1.2.1 (by rw [← HLB.out]; exact hlb) hso
          have hml : m.length ≤ 1000000000 := by
            have h1 := (body_le2 hokm.2.1)
            have h2 := hokm.2.2
            omega
          have HPM := Lib.hid (recPut_any am cm m wg hrm hml)
          have HOKM := Lib.hid (And.intro hokm hbm)
          clear ho his hrm hso hokm hbm
          go_wp2_with fail
          refine HPM.out.mono ?_
          rintro e wh ⟨hbh, ⟨_, vy, rfl, hoy⟩ | ⟨hno, _⟩⟩
          · obtain ⟨ay, cy, rfl, hry, -, -⟩ := own_shape hoy (body_bytes m)
            have HBH := Lib.hid (HBG.out.trans (hbh.mono HBG.out.size))
            have hrb := HB0.out.1.below HBH.out
            have ey : (body m).length = lb := by rw [HOKM.out.2]; exact HLB.out.symm
            rw [HOKM.out.2] at hry
            have hs1 := fun dst hd => run_string_row (P := Try.prog) hry 33 5 dst Try.underlying33 Try.underlying5 hd cy
            have hs2 := fun dst hd => run_string_row (P := Try.prog) hrb 33 5 dst Try.underlying33 Try.underlying5 hd capb
            obtain ⟨S, hS⟩ : ∃ S, S = strOfNums zs := ⟨_, rfl⟩
            rw [← hS] at hs1 hs2
            rw [← HLB.out] at hs1
            rw [ey]
            clear hbh hoy hry hrb ey hS HPM
            go_wp2_with fail
            go_ret
            exact ⟨rfl, HBH.out⟩
          · exact absurd HOKM.out.1 hno
        · clear hso
          go_wp2_with fail
          go_ret
          exact ⟨rfl, HBG.out⟩
end Go.Proofs.Ytkiagflpjloliaa.Rec
