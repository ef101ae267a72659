/- QuotaGrows walked. -/
import Derived.Test.YtceooidgghmfbaaQuoCalls
import Derived.Deep.Onto
namespace Go.Proofs.Ytceooidgghmfbaa.Quo
open Go.Proofs.Ytceooidgghmfbaa.Mem
open Go.ChangeShapes Go.WideShapes Go.ChangeAt Go.RowKit
set_option linter.unusedVariables false
set_option linter.unusedSimpArgs false
/- The law leaves at once. -/
set_option maxRecDepth 100000 in
set_option maxHeartbeats 1000000 in
theorem grows_away {W : World} {a : Option Addr} {n c : Nat} (admin more at' : Int) (h : 200 < n ∨ more < 0 ∨ at' < 0) (hn : n ≤ 9223372036854775807) :
    Calls Try.prog 3 #[.slice a n c, .int .i64 admin, .int .i64 more, .int .i64 at'] W fun e w' => e = .returned (.bool true) ∧ Below W.heap.size W w' := by
  by_cases h1 : (200 : Int) < (n : Int)
  · clear h
    go_enter Try.func3, Try.ntmps3
    go_wp2_with fail
    refine (up_any W).mono ?_
    rintro e w1 ⟨rfl, hB⟩
    go_wp2_with fail
    go_ret
    exact ⟨rfl, hB⟩
  · by_cases h2 : more < 0
    · clear h
      go_enter Try.func3, Try.ntmps3
      go_wp2_with fail
      refine (up_any W).mono ?_
      rintro e w1 ⟨rfl, hB⟩
      go_wp2_with fail
      go_ret
      exact ⟨rfl, hB⟩
    · have h3 : at' < 0 := by omega
      clear h
      go_enter Try.func3, Try.ntmps3
      go_wp2_with fail
      refine (up_any W).mono ?_
      rintro e w1 ⟨rfl, hB⟩
      go_wp2_with fail
      go_ret
      exact ⟨rfl, hB⟩
theorem made0 (w : World) : (w.alloc (.cells #[] 2)).ownsRow w.heap.size 2 1 (.slice (some ⟨w.heap.size, 0, none⟩) 0 0) 0 [] := World.ownsRow_made w #[] 0 (Nat.le_refl _) (by unfold maxLen; omega) (by rfl)
theorem back_step {l : List Int} {j : Nat} (h : j < l.length) : (l.drop j).reverse = (l.drop (j + 1)).reverse ++ [l[j]] := by
  rw [List.drop_eq_getElem_cons h, List.reverse_cons]
set_option maxRecDepth 100000 in
set_option maxHeartbeats 2000000 in
theorem grows_any {W : World} {a : Option Addr} {l : List Int} {c : Nat} (hk : Ns W a l) (hnil : a = none → c = 0) (hl : l.length ≤ 200) (hc : l.length ≤ c) (admin : Int) {more : Int} (hm : 0 ≤ more) (m : Nat) (hm2 : m ≤ 9223372036854775807) :
    Calls Try.prog 3 #[.slice a l.length c, .int .i64 admin, .int .i64 more, .int .i64 (m : Int)] W fun e w' => e = .returned (.bool true) ∧ Below W.heap.size W w' := by
  obtain ⟨i0, hi0, hz⟩ := Option.map_eq_some_iff.1 num_info
  simp only [Prod.mk.injEq] at hz
  obtain ⟨hz0, hz1, hz2⟩ := hz
  have HK := Lib.hid hk
  have HNIL := Lib.hid hnil
  have cR : ∀ w, Below W.heap.size W w → Calls Try.prog 5 #[.slice a l.length c, .int .i64 admin] w fun e w' => e = .returned (.int .i64 (res l admin)) ∧ w' = w := fun w hb => reserve_any (hk.below hb) (by omega) admin
  have hsees : ∀ w, Below W.heap.size W w → Sees w 1 (.slice a l.length c) l.length (nc l) := fun w hb => (hk.below hb).sees hnil
  obtain ⟨n, hn⟩ : ∃ n, n = l.length := ⟨_, rfl⟩
  rw [← hn] at hl hc cR ⊢
  obtain ⟨R, hR⟩ : ∃ r, r = res l admin := ⟨_, rfl⟩
  rw [← hR] at cR
  have HS := Lib.hid hsees
  have HC := Lib.hid cR
  have HN := Lib.hid hn
  have HR := Lib.hid hR
  clear hk hnil hn hR cR hsees
  go_enter Try.func3, Try.ntmps3
  go_wp2_with fail
  refine (up_any W).mono ?_
  rintro e w1 ⟨rfl, hb1⟩
  have HB1 := Lib.hid hb1
  clear hb1
  go_wp2_with fail
  refine (HC.out w1 HB1.out).mono ?_
  rintro e w2 ⟨rfl, hw2⟩
  rw [hw2]
  clear hw2
  have hb2 := HB1.out.trans (((Below.refl w1.heap.size w1).alloc (Nat.le_refl _) (.cells #[] 2)).mono HB1.out.size)
  have ho2 : (w1.alloc (.cells #[] 2)).ownsRow W.heap.size 2 1 (.slice (some ⟨w1.heap.size, 0, none⟩) 0 0) 0 [] := World.ownsRow.mono (made0 w1) HB1.out.size
  have hs2 := HS.out _ hb2
  rw [← HN.out] at hs2
  obtain ⟨w2, hw2⟩ : ∃ v, v = w1.alloc (.cells #[] 2) := ⟨_, rfl⟩
  rw [← hw2] at hb2 ho2 hs2
  have H2 := Lib.hid (And.intro hb2 (And.intro ho2 hs2))
  have HW2 := Lib.hid hw2
  clear hb2 ho2 hs2 hw2
  go_wp2_with (at_builtin; revert HW2)
  intro HW2
  change wpList _ _ _ _ _ (w1.alloc (.cells #[] 2))
  rw [← HW2.out]
  refine wpList_append_sees rfl _ _ _ rfl W.heap.size 2 i0 _ 1 8 Try.underlying22 hi0 hz0 hz1 hz2 rfl (by omega) (.slice (some ⟨w1.heap.size, 0, none⟩) 0 0) 0 [] rfl H2.out.2.1 (.slice a n c) n (nc l) rfl H2.out.2.2 (nc_one _) (by unfold maxLen; omega) (by omega) H2.out.1.size ?_
  intro v3 w3 ho3 hb3
  rw [Nat.zero_add, List.nil_append] at ho3
  have hb3' := H2.out.1.trans hb3
  obtain ⟨a3, c3, rfl, -⟩ := own_ns ho3
  have hb4 := (Below.refl w3.heap.size w3).alloc (Nat.le_refl _) (.cells #[.int .i64 more] 2)
  have ho4 := own_new ho3 hb4
  have hs4 : Sees (w3.alloc (.cells #[.int .i64 more] 2)) 1 (.slice (some ⟨w3.heap.size, 0, none⟩) 1 1) 1 [.int .i64 more] := sees_one _ _ _ _
  have hb4' := hb3'.trans (hb4.mono hb3'.size)
  obtain ⟨w4, hw4⟩ : ∃ v, v = w3.alloc (.cells #[.int .i64 more] 2) := ⟨_, rfl⟩
  rw [← hw4] at hb4' ho4 hs4
  have H4 := Lib.hid (And.intro hb4' (And.intro ho4 hs4))
  have HW4 := Lib.hid hw4
  clear hb3 hb3' ho3 hb4 hb4' ho4 hs4 hw4 H2 HW2
  go_wp2_with (at_builtin; revert HW4)
  intro HW4
  change wpList _ _ _ _ _ (w3.alloc (.cells #[.int .i64 more] 2))
  rw [← HW4.out]
  refine wpList_append_sees rfl _ _ _ rfl W.heap.size 2 i0 _ 1 8 Try.underlying22 hi0 hz0 hz1 hz2 rfl (by omega) (.slice a3 n c3) n (nc l) rfl H4.out.2.1 (.slice (some ⟨w3.heap.size, 0, none⟩) 1 1) 1 [.int .i64 more] rfl H4.out.2.2 (fun u hu => by rw [List.mem_singleton.1 hu]; rfl) (by unfold maxLen; omega) (by omega) H4.out.1.size ?_
  intro v5 w5 ho5 hb5
  have hb5' := H4.out.1.trans hb5
  obtain ⟨a5, c5, rfl, hn5, hk5, -⟩ := own_ns (l := l ++ [more]) (by rw [nc_app]; exact ho5)
  have c5' := reserve_any (c := c5) hk5 (by rw [← hn5]; omega) admin
  rw [← hn5] at c5'
  have hge := res_more l admin hm
  rw [← HR.out] at hge
  obtain ⟨R5, hR5⟩ : ∃ r, r = res (l ++ [more]) admin := ⟨_, rfl⟩
  rw [← hR5] at c5' hge
  have HB5 := Lib.hid hb5'
  have HC5 := Lib.hid c5'
  clear hb5 hb5' ho5 hn5 hk5 c5' hR5 H4 HW4
  go_wp2_with fail
  refine HC5.out.mono ?_
  rintro e w6 ⟨rfl, hw6⟩
  rw [hw6]
  clear hw6 HC5
  have t1 : decide (R5 < R) = false := decide_eq_false (by omega)
  clear hge
  go_wp2_with fail
  go_loopw [11, 12] (fun u x wr => ∃ (j : Nat), x = .int .i64 ((j : Int) - 1) ∧ j ≤ n ∧ wr.ownsRow W.heap.size 2 1 u (n - j) (nc (l.drop j).reverse) ∧ Below W.heap.size W wr) (fun _ x _ => (intOf x + 1).toNat)
  case atStart =>
    refine ⟨n, rfl, by omega, ?_, HB5.out⟩
    rw [List.drop_of_length_le (by rw [← HN.out]; omega), Nat.sub_self]
    exact World.ownsRow_nil _ _ _ _
  case round =>
    obtain ⟨j, rfl, hj, hor, hbr⟩ := hrel
    rcases Nat.eq_zero_or_pos j with h0 | h0
    · subst h0
      rw [List.drop_zero, Nat.sub_zero] at hor
      obtain ⟨ab, cb, rfl, hnb, hkb, -⟩ := own_ns hor
      have cB := reserve_any (c := cb) hkb (by rw [← hnb]; omega) admin
      rw [← hnb, res_back, ← HR.out] at cB
      have HBR := Lib.hid hbr
      have HCB := Lib.hid cB
      clear hor hnb hkb cB hbr
      go_wp2_with fail
      refine HCB.out.mono ?_
      rintro e w7 ⟨rfl, hw7⟩
      rw [hw7]
      clear hw7 HCB
      rcases Nat.eq_zero_or_pos n with h0 | h0
      · have b4 : ((n : Int) == 0) = true := beq_iff_eq.2 (by omega)
        go_wp2_with fail
        go_ret
        exact ⟨rfl, HBR.out⟩
      · have b4 : ((n : Int) == 0) = false := beq_eq_false_iff_ne.2 (by omega)
        by_cases hmo : 1152921504606846976 < more
        · go_wp2_with fail
          go_ret
          exact ⟨rfl, HBR.out⟩
        · obtain ⟨k, hkk⟩ : ∃ k, k = m % n := ⟨_, rfl⟩
          have hkl : k < n := by rw [hkk]; exact Nat.mod_lt _ (by omega)
          have hr1 : (m : Int) % (n : Int) = (k : Int) := by rw [hkk]; push_cast; rfl
          have hk2 : k < l.length := by rw [← HN.out]; exact hkl
          obtain ⟨b, off, rfl, hb, hcl⟩ := HK.out (by omega)
          have c0 := hcl k hk2
          obtain ⟨y, hy⟩ : ∃ y, y = l[k] := ⟨_, rfl⟩
          rw [← hy] at c0
          have c1 : wr.cell? ⟨b, off + k, none⟩ = some (.int .i64 y) := (HBR.out.cell (p := ⟨b, off + k, none⟩) hb).trans c0
          have HY := Lib.hid hy
          have b1 : (k : Int) < (n : Int) := by omega
          have b6 : (0 : Int) < (n : Int) := by omega
          clear hcl c0 hy hkk hb
          by_cases hy1 : 1152921504606846976 < y
          · go_wp2_with fail
            go_ret
            exact ⟨rfl, HBR.out⟩
          · by_cases hy2 : y < 0
            · go_wp2_with fail
              go_ret
              exact ⟨rfl, HBR.out⟩
            · have hb7 := HBR.out.trans (((Below.refl wr.heap.size wr).alloc (Nat.le_refl _) (.cells #[] 2)).mono HBR.out.size)
              have ho7 : (wr.alloc (.cells #[] 2)).ownsRow W.heap.size 2 1 (.slice (some ⟨wr.heap.size, 0, none⟩) 0 0) 0 [] := World.ownsRow.mono (made0 wr) HBR.out.size
              have hs7 := HS.out _ hb7
              rw [← HN.out] at hs7
              obtain ⟨w8, hw8⟩ : ∃ v, v = wr.alloc (.cells #[] 2) := ⟨_, rfl⟩
              rw [← hw8] at hb7 ho7 hs7
              have H7 := Lib.hid (And.intro hb7 (And.intro ho7 hs7))
              have HW8 := Lib.hid hw8
              clear hb7 ho7 hs7 hw8
              go_wp2_with (at_builtin; revert HW8)
              intro HW8
              change wpList _ _ _ _ _ (wr.alloc (.cells #[] 2))
              rw [← HW8.out]
              refine wpList_append_sees rfl _ _ _ rfl W.heap.size 2 i0 _ 1 8 Try.underlying22 hi0 hz0 hz1 hz2 rfl (by omega) (.slice (some ⟨wr.heap.size, 0, none⟩) 0 0) 0 [] rfl H7.out.2.1 (.slice (some ⟨b, off, none⟩) n c) n (nc l) rfl H7.out.2.2 (nc_one _) (by unfold maxLen; omega) (by omega) H7.out.1.size ?_
              intro v9 w9 ho9 hb9
              rw [Nat.zero_add, List.nil_append] at ho9
              have hb9' := H7.out.1.trans hb9
              obtain ⟨a9, c9, rfl, -, -, hn9, -, hg9⟩ := own_ns ho9
              obtain ⟨g, rfl, hg1, hg2⟩ := hg9 h0
              have hst := ho9.stored k (.int .i64 (y + more))
              rw [nc_set] at hst
              have cc : w9.cell? ⟨g, k, none⟩ = some (.int .i64 y) := by
                rw [ho9.cellAt k (by omega), nc_at hk2, ← HY.out]
              have cf : w9.frozen? ⟨g, k, none⟩ = false := ho9.frozenAt k
              obtain ⟨ae, ce, hve, hne, hke, -⟩ := own_ns hst.1
              injection hve with hve hve2 hve3
              subst hve; subst hve3
              have cE := reserve_any (c := c9) hke (by rw [← hne]; omega) admin
              rw [← hne] at cE
              have hge := res_set l admin (k := k) (x := y + more) hk2 (by rw [← HY.out]; omega) (by rw [← HY.out]; omega)
              rw [← HR.out] at hge
              obtain ⟨R9, hR9⟩ : ∃ r, r = res (l.set k (y + more)) admin := ⟨_, rfl⟩
              rw [← hR9] at cE hge
              have HB9 := Lib.hid (show Below W.heap.size W (w9.setCell ⟨g, k, none⟩ (.int .i64 (y + more))) from hb9'.setCell (p := ⟨g, k, none⟩) hg1 _)
              have HCE := Lib.hid cE
              have t9 : decide (R ≤ R9) = true := decide_eq_true hge
              clear hst hke hne cE hge hR9 hb9 hb9' ho9 H7 HW8 hn9
              go_wp2_with fail
              refine HCE.out.mono ?_
              rintro e w10 ⟨rfl, hw10⟩
              rw [hw10]
              clear hw10 HCE
              go_wp2_with fail
              go_ret
              exact ⟨rfl, HB9.out⟩
    · obtain ⟨i, rfl⟩ : ∃ i, j = i + 1 := ⟨j - 1, by omega⟩
      have hx : (((i + 1 : Nat) : Int) - 1) = (i : Int) := by omega
      rw [hx]
      have hi2 : i < l.length := by rw [← HN.out]; omega
      obtain ⟨b, off, rfl, hb, hcl⟩ := HK.out (by omega)
      have c0 := hcl i hi2
      have hbs := back_step hi2
      obtain ⟨y, hy⟩ : ∃ y, y = l[i] := ⟨_, rfl⟩
      rw [← hy] at c0 hbs
      have c1 : wr.cell? ⟨b, off + i, none⟩ = some (.int .i64 y) := (hbr.cell (p := ⟨b, off + i, none⟩) hb).trans c0
      obtain ⟨au, cu, rfl, -⟩ := own_ns hor
      have hb7 := (Below.refl wr.heap.size wr).alloc (Nat.le_refl _) (.cells #[.int .i64 y] 2)
      have ho7 := own_new hor hb7
      have hs7 : Sees (wr.alloc (.cells #[.int .i64 y] 2)) 1 (.slice (some ⟨wr.heap.size, 0, none⟩) 1 1) 1 [.int .i64 y] := sees_one _ _ _ _
      have hb7' := hbr.trans (hb7.mono hbr.size)
      obtain ⟨w7, hw7⟩ : ∃ v, v = wr.alloc (.cells #[.int .i64 y] 2) := ⟨_, rfl⟩
      rw [← hw7] at hb7' ho7 hs7
      have H7 := Lib.hid (And.intro hb7' (And.intro ho7 hs7))
      have HW7 := Lib.hid hw7
      have HBS := Lib.hid hbs
      have hin : (i : Int) < (n : Int) := by omega
      obtain ⟨k, hk⟩ : ∃ k, k = n - (i + 1) := ⟨_, rfl⟩
      rw [← hk] at H7 ⊢
      have hkn : k ≤ 200 := by omega
      have HKN := Lib.hid (show k + 1 = n - i from by omega)
      clear hcl c0 hy hor hbr hb7 ho7 hs7 hb7' hw7 hbs hk hx
      go_wp2_with (at_builtin; revert HW7)
      intro HW7
      change wpList _ _ _ _ _ (wr.alloc (.cells #[.int .i64 y] 2))
      rw [← HW7.out]
      refine wpList_append_sees rfl _ _ _ rfl W.heap.size 2 i0 _ 1 8 Try.underlying22 hi0 hz0 hz1 hz2 rfl (by omega) (.slice au k cu) k (nc (l.drop (i + 1)).reverse) rfl H7.out.2.1 (.slice (some ⟨wr.heap.size, 0, none⟩) 1 1) 1 [.int .i64 y] rfl H7.out.2.2 (fun u hu => by rw [List.mem_singleton.1 hu]; rfl) (by unfold maxLen; omega) (by omega) H7.out.1.size ?_
      intro v8 w8 ho8 hb8
      have hb8' := H7.out.1.trans hb8
      have HB8 := Lib.hid hb8'
      have HO8 := Lib.hid (show w8.ownsRow W.heap.size 2 1 v8 (n - i) (nc (l.drop i).reverse) from by
        rw [HBS.out, nc_app, ← HKN.out]
        exact ho8)
      clear ho8 hb8 hb8' H7 HW7
      go_wp2_with fail
      go_roundw
      case rel => exact ⟨i, rfl, by omega, HO8.out, HB8.out⟩
      case measure => first | (simp [intOf]; omega) | simp [intOf]
end Go.Proofs.Ytceooidgghmfbaa.Quo
