/- RecordGets: the walk of the law. -/
import Derived.Test.YtkiagflpjloliaaRecUp
import Derived.Test.YtkiagflpjloliaaRecFew
import Derived.Test.YtkiagflpjloliaaRecGetAll
import Derived.Test.YtkiagflpjloliaaRecRecords
namespace Go.Proofs.Ytkiagflpjloliaa.Rec
open Go.Proofs.Ytkiagflpjloliaa.Mem Go.Proofs.Ytkiagflpjloliaa.Pack Go.Proofs.Ytkiagflpjloliaa.Err
open Go.ChangeShapes Go.WideShapes Go.ChangeAt Go.RowKit
set_option linter.unusedVariables false
set_option linter.unusedSimpArgs false

theorem recs_len_le {zs : List Int} {l : List Rcd} (h : recs zs = some l) : l.length ≤ zs.length := by
  induction l generalizing zs with
  | nil => simp
  | cons r l ih =>
    rcases Nat.eq_zero_or_pos zs.length with h0 | h0
    · have e := List.eq_nil_of_length_eq_zero h0
      subst e
      rw [recs_nil] at h
      simp at h
    · cases hg : good ⟨zs, false⟩
      · rw [recs_bad h0 hg] at h; cases h
      · rw [recs_good h0 hg] at h
        cases hq : recs (behind ⟨zs, false⟩).zs with
        | none => rw [hq] at h; simp at h
        | some m =>
          rw [hq] at h
          simp only [Option.map_some, Option.some.injEq, List.cons.injEq] at h
          have h1 := ih (by rw [hq, h.2])
          have h2 := behind_lt ⟨zs, false⟩ h0
          simp only [List.length_cons]
          simp only at h2
          omega
theorem recsOf_len_le {zs : List Int} {l : List Rcd} (h : recsOf zs = some l) : l.length ≤ zs.length := by
  unfold recsOf at h
  split at h
  · cases h
  · exact recs_len_le h
set_option maxHeartbeats 1000000 in
theorem gets_long (a : Option Addr) (len cap : Nat) (w : World) (hl : 25000 < len) (hm : len ≤ 9223372036854775807) :
    Calls Try.prog 4 #[.slice a len cap] w fun e w' => e = .returned (.bool true) ∧ Below w.heap.size w w' := by
  go_enter Try.func4, Try.ntmps4
  go_wp2_with fail
  refine (up_any w).mono ?_
  rintro e w1 ⟨rfl, hb1⟩
  go_wp2_with fail
  go_ret
  exact ⟨rfl, hb1⟩
set_option maxRecDepth 100000 in
set_option maxHeartbeats 4000000 in
theorem gets_any (a : Option Addr) (cap : Nat) (zs : List Int) (w : World) (h : Row w a zs.length zs) (hn : a = none → cap = 0) (hlc : zs.length ≤ cap) (hcm : cap ≤ maxLen) (hl : zs.length ≤ 25000) :
    Calls Try.prog 4 #[.slice a zs.length cap] w fun e w' => e = .returned (.bool true) ∧ Below w.heap.size w w' := by
  have H0 := Lib.hid (And.intro h (And.intro hn (And.intro hlc hcm)))
  have hg := fun w1 hw => recGet_any a cap zs w1 hw hn (by omega)
  have hr := fun w1 hw => refRecords_any a cap zs w1 hw hn hlc hcm (by omega)
  obtain ⟨L, hL⟩ : ∃ L, L = zs.length := ⟨_, rfl⟩
  rw [← hL] at hg hr ⊢
  have hl2 : L ≤ 25000 := by omega
  have HL := Lib.hid hL
  have HG := Lib.hid hg
  have HR := Lib.hid hr
  clear h hn hlc hcm hl hg hr hL
  go_enter Try.func4, Try.ntmps4
  go_wp2_with fail
  refine (up_any w).mono ?_
  rintro e w1 ⟨rfl, hb1⟩
  have hrow1 : Row w1 a L zs := by rw [HL.out]; exact H0.out.1.below hb1
  go_wp2_with fail
  refine (HG.out w1 hrow1).mono ?_
  rintro e w2 ⟨hb2, hS⟩
  have hbw2 : Below w.heap.size w w2 := hb1.trans (hb2.mono hb1.size)
  have hrow2 : Row w2 a L zs := hrow1.below hb2
  have H2 := Lib.hid (And.intro hbw2 hrow2)
  clear hb1 hb2 hrow1 hbw2 hrow2 H0
  rcases hS with ⟨l, v, hso, rfl, ho, his⟩ | ⟨hso, rfl⟩
  · obtain ⟨a2, c2, rfl, hrc2, hcm2⟩ := recs_of_own ho his
    have hll := recsOf_len_le hso
    have hll2 : l.length ≤ 25000 := by rw [← HL.out] at hll; omega
    have HRC := Lib.hid hrc2
    have HSO := Lib.hid hso
    clear ho his hrc2 hll hso
    go_wp2_with fail
    refine (HR.out w2 H2.out.2).mono ?_
    rintro e w3 ⟨hb3, ⟨l', v', hso', rfl, ho', his'⟩ | ⟨hno, _⟩⟩
    · have hll' : l' = l := by rw [HSO.out] at hso'; injection hso' with h; exact h.symm
      subst hll'
      obtain ⟨a3, c3, rfl, hrc3, hcm3⟩ := recs_of_own ho' his'
      have hrc2 := HRC.out.below hb3
      have HB3 := Lib.hid (H2.out.1.trans (hb3.mono H2.out.1.size))
      have HSM := Lib.hid (same_yes a2 a3 c2 c3 l' w3 hrc2 hrc3 (by omega))
      clear ho' his' hso' hb3 hrc2 hrc3
      go_wp2_with fail
      refine HSM.out.mono ?_
      rintro e w4 ⟨rfl, m, rfl⟩
      go_wp2_with fail
      go_ret
      exact ⟨rfl, below_drewN HB3.out m⟩
    · rw [HSO.out] at hno; cases hno
  · have HSO := Lib.hid hso
    clear hso
    go_wp2_with fail
    refine (HR.out w2 H2.out.2).mono ?_
    rintro e w3 ⟨hb3, ⟨l', v', hso', _⟩ | ⟨_, rfl⟩⟩
    · rw [HSO.out] at hso'; cases hso'
    · have HB3 := Lib.hid (H2.out.1.trans (hb3.mono H2.out.1.size))
      have hcode := code_some 2 (by omega) (by omega) w3
      clear hb3
      go_wp2_with fail
      refine hcode.mono ?_
      rintro e w4 ⟨rfl, rfl⟩
      go_wp2_with fail
      go_ret
      exact ⟨rfl, HB3.out⟩
end Go.Proofs.Ytkiagflpjloliaa.Rec
