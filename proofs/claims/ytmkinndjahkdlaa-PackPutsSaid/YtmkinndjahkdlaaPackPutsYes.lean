/- PackPuts where the number may be: the walk of the law. -/
import Derived.Test.YtmkinndjahkdlaaPackPuts
namespace Go.Proofs.Ytmkinndjahkdlaa.Pack
open Go.Proofs.Ytmkinndjahkdlaa.Mem
open Go.ChangeShapes Go.WideShapes Go.ChangeAt Go.RowKit
set_option linter.unusedVariables false
set_option linter.unusedSimpArgs false

set_option maxHeartbeats 4000000 in
theorem puts_yes (a0 : Option Addr) (len cap : Nat) (zs : List Int) (n k : Nat) (hn : n < 18446744073709551616) (s : ByteArray) (w : World) (hx : Row w a0 len zs) (hn0 : a0 = none → cap = 0) (hl : len ≤ 500) (hs : s.size ≤ 70000) (hk : k ≤ 8) :
    Calls Try.prog 3 #[.slice a0 len cap, .int .u64 (n : Int), .int .i64 (k : Int), .string s] w fun e w' => e = .returned (.bool true) ∧ Below w.heap.size w w' := by
  obtain ⟨i0, hi0, hz0, hz1, hz2⟩ := info_parts u8_info
  have HN0 := Lib.hid hn0
  clear hn0
  obtain rfl : zs.length = len := hx.1
  have hcs : (cut s).size ≤ 65535 := by
    unfold cut
    split
    · rw [ByteArray.size_extract]; omega
    · omega
  obtain ⟨T, hT⟩ : ∃ T, T = cut s := ⟨_, rfl⟩
  rw [← hT] at hcs
  have HT := Lib.hid hT
  clear hT
  have hk0 : ¬ ((k : Int) < 0) := by omega
  have hk8 : ¬ (8 < (k : Int)) := by omega
  go_enter Try.func3, Try.ntmps3
  go_wp2_with fail
  refine (up_any w).mono ?_
  rintro e w1 ⟨rfl, hb1⟩
  have hx1 := hx.below hb1
  go_wp2_with (first
    | ((at_builtin; refine wpList_append_onto rfl (.tmp 23) (.tmp 24) _ rfl w1.heap.size 5 i0 _ 1 1 Try.underlying22 hi0 hz0 hz1 hz2 rfl (by omega) (.slice (some ⟨w1.heap.size, 0, none⟩) 0 0) 0 [] rfl (World.ownsRow_made w1 #[] 0 (Nat.le_refl _) (by simp) (by simp)) (.slice a0 zs.length cap) zs.length (cellsOf zs) rfl ((hx1.sees HN0.out).below ((Below.refl _ _).alloc (Nat.le_refl _) _)) (cellsOf_one zs) (by simp only [maxLen]; omega) (by omega) (by simp) ?_; intro v2 w2 ho2 hon2; have hb2 : Below w1.heap.size w1 w2 := ((Below.refl _ _).alloc (Nat.le_refl _) _).trans (hon2.below (World.ownsRow_made (e := 5) (size := 1) w1 #[] 0 (Nat.le_refl _) (by simp) (by simp)) (by simp))))
    | ((at_builtin; refine wpList_append_onto rfl (.tmp 43) (.tmp 44) _ rfl w2.heap.size 5 i0 _ 1 1 Try.underlying22 hi0 hz0 hz1 hz2 rfl (by omega) (.slice (some ⟨w2.heap.size, 0, none⟩) 0 0) 0 [] rfl (World.ownsRow_made w2 #[] 0 (Nat.le_refl _) (by simp) (by simp)) (.slice a0 zs.length cap) zs.length (cellsOf zs) rfl (((hx1.below hb2).sees HN0.out).below ((Below.refl _ _).alloc (Nat.le_refl _) _)) (cellsOf_one zs) (by simp only [maxLen]; omega) (by omega) (by simp) ?_; intro v3 w3 ho3 hon3; have hb3 : Below w2.heap.size w2 w3 := ((Below.refl _ _).alloc (Nat.le_refl _) _).trans (hon3.below (World.ownsRow_made (e := 5) (size := 1) w2 #[] 0 (Nat.le_refl _) (by simp) (by simp)) (by simp)))))
  clear ho2 hon2
  have hx3 := (hx1.below hb2).below hb3
  refine (put_small n hn k hk v3 _ zs w2.heap.size w3 (by simpa using ho3) hb3.size (by omega)).mono ?_
  rintro e w4 ⟨v4, rfl, ho4, hon4⟩
  have hb4 : Below w2.heap.size w2 w4 := hb3.trans (hon4.below ho3 hb3.size)
  obtain ⟨a4, c4, rfl, hr4, hlen4, hD4⟩ := own_shape ho4 (bytes_append hx.2.1 (put_bytes _ _))
  clear ho3 hon3 ho4 hon4 hD4 hlen4
  have hx4 := (hx1.below hb2).below hb4
  go_wp2_with ((at_builtin; refine wpList_append_onto rfl (.tmp 49) (.tmp 50) _ rfl w4.heap.size 5 i0 _ 1 1 Try.underlying22 hi0 hz0 hz1 hz2 rfl (by omega) (.slice (some ⟨w4.heap.size, 0, none⟩) 0 0) 0 [] rfl (World.ownsRow_made w4 #[] 0 (Nat.le_refl _) (by simp) (by simp)) (.slice a0 zs.length cap) zs.length (cellsOf zs) rfl ((hx4.sees HN0.out).below ((Below.refl _ _).alloc (Nat.le_refl _) _)) (cellsOf_one zs) (by simp only [maxLen]; omega) (by omega) (by simp) ?_; intro v5 w5 ho5 hon5; have hb5 : Below w4.heap.size w4 w5 := ((Below.refl _ _).alloc (Nat.le_refl _) _).trans (hon5.below (World.ownsRow_made (e := 5) (size := 1) w4 #[] 0 (Nat.le_refl _) (by simp) (by simp)) (by simp))))
  refine (putText_any s T HT.out v5 _ zs w4.heap.size w5 (by simpa using ho5) hb5.size (by omega) (by omega)).mono ?_
  rintro e w6 ⟨v6, rfl, ho6, hon6⟩
  have hb6 : Below w4.heap.size w4 w6 := hb5.trans (hon6.below ho5 hb5.size)
  obtain ⟨a6, c6, rfl, hr6, hlen6, hD6⟩ := own_shape ho6 (bytes_append (bytes_append hx.2.1 (put_bytes _ _)) (strBytes_bytes T))
  have hr4 := hr4.below hb6
  have hx6 := hx4.below hb6
  have hbf : Below w.heap.size w w6 := (hb1.trans (hb2.mono hb1.size)).trans ((hb4.mono (hb1.trans (hb2.mono hb1.size)).size).trans (hb6.mono ((hb1.trans (hb2.mono hb1.size)).trans (hb4.mono (hb1.trans (hb2.mono hb1.size)).size)).size))
  have hbyA : Bytes (zs ++ put n k) := bytes_append hx.2.1 (put_bytes _ _)
  have hbyB : Bytes (zs ++ put T.size 2 ++ strBytes T) := bytes_append (bytes_append hx.2.1 (put_bytes _ _)) (strBytes_bytes T)
  clear ho5 hon5 ho6 hon6 hD6 hb1 hb2 hb3 hb4 hb5 hb6 hx hx1 hx3 hx4
  clear hlen6
  go_wp2_with fail
  have mk : ∀ w', Below w6.heap.size w6 w' → ((convert 22 9 (.slice a4 (zs.length + k) c4)).run Try.prog w' = .ok (.string (strOfNums (zs ++ put n k))) w' ∧ (convert 22 9 (.slice a6 (zs.length + 2 + T.size) c6)).run Try.prog w' = .ok (.string (strOfNums (zs ++ put T.size 2 ++ strBytes T))) w') :=
    fun w' h => ⟨run_string_row (hr4.below h) _ 5 _ Try.underlying22 Try.underlying5 Try.underlying9 c4, run_string_row (hr6.below h) _ 5 _ Try.underlying22 Try.underlying5 Try.underlying9 c6⟩
  have HMK := Lib.hid mk
  clear mk hr4 hr6
  refine wp_region_held_drew (S := (fun w' => (convert 22 9 (.slice a4 (zs.length + k) c4)).run Try.prog w' = .ok (.string (strOfNums (zs ++ put n k))) w' ∧ (convert 22 9 (.slice a6 (zs.length + 2 + T.size) c6)).run Try.prog w' = .ok (.string (strOfNums (zs ++ put T.size 2 ++ strBytes T))) w')) (by kernel_rfl) ?_ (fun hH => ?_)
  · exact HMK.out _ ((Below.refl _ _).drew)
  refine wpAnyH_take (i := 0) (v := ?_) (by simp only [List.getElem?_toArray, List.getElem?_cons_succ, List.getElem?_cons_zero]; rfl) (by kernel_rfl) (by kernel_rfl) (by kernel_rfl) (by exact fun _ _ _ h => h) (Or.inl ⟨by rfl, ?_⟩) hH ?_
  rotate_left
  · (intro wy hSw; (try dsimp only at hSw); go_simp; try (with_reducible rfl))
  try simp only [Act.put, List.setIfInBounds_toArray, List.set_cons_zero, List.set_cons_succ]
  refine wpAnyH_take (i := 1) (v := ?_) (by simp only [List.getElem?_toArray, List.getElem?_cons_succ, List.getElem?_cons_zero]; rfl) (by kernel_rfl) (by kernel_rfl) (by kernel_rfl) (by exact fun _ _ _ h => h) (Or.inl ⟨by rfl, ?_⟩) hH ?_
  rotate_left
  · (intro wy hSw; (try dsimp only at hSw); go_simp; try (with_reducible rfl))
  try simp only [Act.put, List.setIfInBounds_toArray, List.set_cons_zero, List.set_cons_succ]
  refine wpAnyH_take (i := 2) (v := ?_) (by simp only [List.getElem?_toArray, List.getElem?_cons_succ, List.getElem?_cons_zero]; rfl) (by kernel_rfl) (by kernel_rfl) (by kernel_rfl) (by exact fun _ _ _ h => h) (Or.inl ⟨by rfl, ?_⟩) hH ?_
  rotate_left
  · (intro wy hSw; (try dsimp only at hSw); go_simp; try (with_reducible rfl))
  try simp only [Act.put, List.setIfInBounds_toArray, List.set_cons_zero, List.set_cons_succ]
  refine wpAnyH_take (i := 3) (v := ?_) (by simp only [List.getElem?_toArray, List.getElem?_cons_succ, List.getElem?_cons_zero]; rfl) (by kernel_rfl) (by kernel_rfl) (by kernel_rfl) (by exact fun _ _ _ h => h) (Or.inl ⟨by rfl, ?_⟩) hH ?_
  rotate_left
  · (intro wy hSw; (try dsimp only at hSw); go_simp; try (with_reducible rfl))
  try simp only [Act.put, List.setIfInBounds_toArray, List.set_cons_zero, List.set_cons_succ]
  refine wpAnyH_take (i := 5) (v := ?_) (by simp only [List.getElem?_toArray, List.getElem?_cons_succ, List.getElem?_cons_zero]; rfl) (by kernel_rfl) (by kernel_rfl) (by kernel_rfl) (by exact fun _ _ _ h => h) (Or.inl ⟨by rfl, ?_⟩) hH ?_
  rotate_left
  · (intro wy hSw; (try dsimp only at hSw); go_simp; try (with_reducible rfl))
  try simp only [Act.put, List.setIfInBounds_toArray, List.set_cons_zero, List.set_cons_succ]
  refine wpAnyH_take (i := 7) (v := ?_) (by simp only [List.getElem?_toArray, List.getElem?_cons_succ, List.getElem?_cons_zero]; rfl) (by kernel_rfl) (by kernel_rfl) (by kernel_rfl) (by exact fun _ _ _ h => h) (Or.inl ⟨by rfl, ?_⟩) hH ?_
  rotate_left
  · (intro wy hSw; (try dsimp only at hSw); go_simp; try (with_reducible rfl))
  try simp only [Act.put, List.setIfInBounds_toArray, List.set_cons_zero, List.set_cons_succ]
  refine wpAnyH_take (i := 8) (v := ?_) (by simp only [List.getElem?_toArray, List.getElem?_cons_succ, List.getElem?_cons_zero]; rfl) (by kernel_rfl) (by kernel_rfl) (by kernel_rfl) (by exact fun _ _ _ h => h) (Or.inl ⟨by rfl, ?_⟩) hH ?_
  rotate_left
  · (intro wy hSw; (try dsimp only at hSw); go_simp; try (with_reducible rfl))
  try simp only [Act.put, List.setIfInBounds_toArray, List.set_cons_zero, List.set_cons_succ]
  refine wpAnyH_ready (rs := [4]) (by kernel_rfl) (by simp) ?_
  refine AllReadyH.cons (by simp only [List.getElem?_toArray, List.getElem?_cons_succ, List.getElem?_cons_zero]; rfl) (fun K hK => ?_) AllReadyH.nil
  clear hH
  go_simp
  refine hK.out _ _ ?_ (fun hH => ?_)
  · exact HMK.out _ ((Below.refl _ _).drew.alloc (Nat.le_refl _) _)
  clear hK K
  try simp only [Act.put, List.setIfInBounds_toArray, List.set_cons_zero, List.set_cons_succ]
  refine wpAnyH_ready (rs := [6]) (by kernel_rfl) (by simp) ?_
  refine AllReadyH.cons (by simp only [List.getElem?_toArray, List.getElem?_cons_succ, List.getElem?_cons_zero]; rfl) (fun K hK => ?_) AllReadyH.nil
  clear hH
  refine step_append_onto rfl (.tmp 58) (.tmp 59) _ rfl w6.heap.size 5 i0 _ 1 1 Try.underlying22 hi0 hz0 hz1 hz2 rfl (by omega) (.slice (some ⟨w6.drew.heap.size, 0, none⟩) 0 0) 0 [] rfl (World.ownsRow_made (base := w6.heap.size) (e := 5) (size := 1) w6.drew #[] 0 (Nat.le_refl _) (by simp) (by simp)) (.slice a0 zs.length cap) zs.length (cellsOf zs) rfl ((hx6.sees HN0.out).below ((Below.refl w6.heap.size w6).drew.alloc (Nat.le_refl _) _)) (cellsOf_one zs) (by simp only [maxLen]; omega) (by omega) (Below.size ((Below.refl w6.heap.size w6).drew.alloc (Nat.le_refl _) _)) ?_
  intro v7 w7 ho7 hon7
  have hb7 : Below w6.heap.size w6 w7 := ((Below.refl w6.heap.size w6).drew.alloc (Nat.le_refl _) _).trans (hon7.below (World.ownsRow_made (base := w6.heap.size) (e := 5) (size := 1) w6.drew #[] 0 (Nat.le_refl _) (by simp) (by simp)) (Below.size ((Below.refl w6.heap.size w6).drew.alloc (Nat.le_refl _) _)))
  refine hK.out _ _ ?_ (fun hH => ?_)
  · exact HMK.out _ (hb7)
  clear hK K
  try simp only [Act.put, List.setIfInBounds_toArray, List.set_cons_zero, List.set_cons_succ]
  refine wpAnyH_ready (rs := [9]) (by kernel_rfl) (by simp) ?_
  refine AllReadyH.cons (by simp only [List.getElem?_toArray, List.getElem?_cons_succ, List.getElem?_cons_zero]; rfl) (fun K hK => ?_) AllReadyH.nil
  clear hH
  go_simp
  go_at_call 9
  refine (refPut_any n hn k hk v7 _ zs w6.heap.size w7 (by simpa using ho7) hb7.size (by omega)).mono ?_
  rintro e w8 ⟨v8, rfl, ho8, hon8⟩
  have hb8 : Below w6.heap.size w6 w8 := hb7.trans (hon8.below ho7 hb7.size)
  obtain ⟨a8, c8, rfl, hr8, hlen8, hD8⟩ := own_shape ho8 hbyA
  have hstr8 := run_string_row (P := Try.prog) hr8 22 5 9 Try.underlying22 Try.underlying5 Try.underlying9 c8
  clear hlen8 hD8 hr8
  refine hK.out _ _ ?_ (fun hH => ?_)
  · exact HMK.out _ (hb8)
  clear hK K
  try simp only [Act.put, List.setIfInBounds_toArray, List.set_cons_zero, List.set_cons_succ]
  refine wpAnyH_ready (rs := [10]) (by kernel_rfl) (by simp) ?_
  refine AllReadyH.cons (by simp only [List.getElem?_toArray, List.getElem?_cons_succ, List.getElem?_cons_zero]; rfl) (fun K hK => ?_) AllReadyH.nil
  clear hH
  go_simp
  refine hK.out _ _ ?_ (fun hH => ?_)
  · exact HMK.out _ (hb8)
  clear hK K
  try simp only [Act.put, List.setIfInBounds_toArray, List.set_cons_zero, List.set_cons_succ]
  refine wpAnyH_take (i := 11) (v := ?_) (by simp only [List.getElem?_toArray, List.getElem?_cons_succ, List.getElem?_cons_zero]; rfl) (by kernel_rfl) (by kernel_rfl) (by kernel_rfl) (by exact fun _ _ _ h => h) (Or.inl ⟨by rfl, ?_⟩) hH ?_
  rotate_left
  · (intro wy hSw; (try dsimp only at hSw); go_simp; try (with_reducible rfl))
  try simp only [Act.put, List.setIfInBounds_toArray, List.set_cons_zero, List.set_cons_succ]
  refine wpAnyH_take (i := 12) (v := ?_) (by simp only [List.getElem?_toArray, List.getElem?_cons_succ, List.getElem?_cons_zero]; rfl) (by kernel_rfl) (by kernel_rfl) (by kernel_rfl) (by exact fun _ _ _ h => h) (Or.inl ⟨by rfl, ?_⟩) hH ?_
  rotate_left
  · (intro wy hSw; (try dsimp only at hSw); go_simp; try (with_reducible rfl))
  try simp only [Act.put, List.setIfInBounds_toArray, List.set_cons_zero, List.set_cons_succ]
  refine wpAnyH_take (i := 13) (v := ?_) (by simp only [List.getElem?_toArray, List.getElem?_cons_succ, List.getElem?_cons_zero]; rfl) (by kernel_rfl) (by kernel_rfl) (by kernel_rfl) (by exact fun _ _ _ h => h) (Or.inl ⟨by rfl, ?_⟩) hH ?_
  rotate_left
  · (intro wy hSw; (try dsimp only at hSw); go_simp; try (with_reducible rfl))
  try simp only [Act.put, List.setIfInBounds_toArray, List.set_cons_zero, List.set_cons_succ]
  refine wpAnyH_take (i := 14) (v := ?_) (by simp only [List.getElem?_toArray, List.getElem?_cons_succ, List.getElem?_cons_zero]; rfl) (by kernel_rfl) (by kernel_rfl) (by kernel_rfl) (by exact fun _ _ _ h => h) (Or.inl ⟨by rfl, ?_⟩) hH ?_
  rotate_left
  · (intro wy hSw; (try dsimp only at hSw); go_simp; try (with_reducible rfl))
  try simp only [Act.put, List.setIfInBounds_toArray, List.set_cons_zero, List.set_cons_succ]
  refine wpAnyH_take (i := 15) (v := ?_) (by simp only [List.getElem?_toArray, List.getElem?_cons_succ, List.getElem?_cons_zero]; rfl) (by kernel_rfl) (by kernel_rfl) (by kernel_rfl) (by exact fun _ _ _ h => h) (Or.inl ⟨by rfl, ?_⟩) hH ?_
  rotate_left
  · (intro wy hSw; (try dsimp only at hSw); go_simp; try (with_reducible rfl))
  try simp only [Act.put, List.setIfInBounds_toArray, List.set_cons_zero, List.set_cons_succ]
  refine wpAnyH_take (i := 17) (v := ?_) (by simp only [List.getElem?_toArray, List.getElem?_cons_succ, List.getElem?_cons_zero]; rfl) (by kernel_rfl) (by kernel_rfl) (by kernel_rfl) (by exact fun _ _ _ h => h) (Or.inl ⟨by rfl, ?_⟩) hH ?_
  rotate_left
  · (intro wy hSw; (try dsimp only at hSw); go_simp; try (with_reducible rfl))
  try simp only [Act.put, List.setIfInBounds_toArray, List.set_cons_zero, List.set_cons_succ]
  refine wpAnyH_take (i := 19) (v := ?_) (by simp only [List.getElem?_toArray, List.getElem?_cons_succ, List.getElem?_cons_zero]; rfl) (by kernel_rfl) (by kernel_rfl) (by kernel_rfl) (by exact fun _ _ _ h => h) (Or.inl ⟨by rfl, ?_⟩) hH ?_
  rotate_left
  · (intro wy hSw; (try dsimp only at hSw); go_simp; try (with_reducible rfl))
  try simp only [Act.put, List.setIfInBounds_toArray, List.set_cons_zero, List.set_cons_succ]
  refine wpAnyH_ready (rs := [16]) (by kernel_rfl) (by simp) ?_
  refine AllReadyH.cons (by simp only [List.getElem?_toArray, List.getElem?_cons_succ, List.getElem?_cons_zero]; rfl) (fun K hK => ?_) AllReadyH.nil
  clear hH
  go_simp
  refine hK.out _ _ ?_ (fun hH => ?_)
  · exact HMK.out _ (hb8.alloc hb8.size _)
  clear hK K
  try simp only [Act.put, List.setIfInBounds_toArray, List.set_cons_zero, List.set_cons_succ]
  refine wpAnyH_ready (rs := [18]) (by kernel_rfl) (by simp) ?_
  refine AllReadyH.cons (by simp only [List.getElem?_toArray, List.getElem?_cons_succ, List.getElem?_cons_zero]; rfl) (fun K hK => ?_) AllReadyH.nil
  clear hH
  refine step_append_onto rfl (.tmp 70) (.tmp 71) _ rfl w6.heap.size 5 i0 _ 1 1 Try.underlying22 hi0 hz0 hz1 hz2 rfl (by omega) (.slice (some ⟨w8.heap.size, 0, none⟩) 0 0) 0 [] rfl (World.ownsRow_made (base := w6.heap.size) (e := 5) (size := 1) w8 #[] 0 hb8.size (by simp) (by simp)) (.slice a0 zs.length cap) zs.length (cellsOf zs) rfl ((hx6.sees HN0.out).below (hb8.alloc hb8.size _)) (cellsOf_one zs) (by simp only [maxLen]; omega) (by omega) (Below.size (hb8.alloc hb8.size _)) ?_
  intro v9 w9 ho9 hon9
  have hb9 : Below w6.heap.size w6 w9 := (hb8.alloc hb8.size _).trans (hon9.below (World.ownsRow_made (base := w6.heap.size) (e := 5) (size := 1) w8 #[] 0 hb8.size (by simp) (by simp)) (Below.size (hb8.alloc hb8.size _)))
  refine hK.out _ _ ?_ (fun hH => ?_)
  · exact HMK.out _ (hb9)
  clear hK K
  try simp only [Act.put, List.setIfInBounds_toArray, List.set_cons_zero, List.set_cons_succ]
  refine wpAnyH_ready (rs := [20]) (by kernel_rfl) (by simp) ?_
  refine AllReadyH.cons (by simp only [List.getElem?_toArray, List.getElem?_cons_succ, List.getElem?_cons_zero]; rfl) (fun K hK => ?_) AllReadyH.nil
  clear hH
  go_simp
  go_at_call 10
  refine (refText_any s T HT.out v9 _ zs w6.heap.size w9 (by simpa using ho9) hb9.size (by omega) (by omega)).mono ?_
  rintro e w10 ⟨v10, rfl, ho10, hbb10⟩
  have hb10 : Below w6.heap.size w6 w10 := hb9.trans hbb10
  obtain ⟨a10, c10, rfl, hr10, hlen10, hD10⟩ := own_shape ho10 hbyB
  have hstr10 := run_string_row (P := Try.prog) hr10 22 5 9 Try.underlying22 Try.underlying5 Try.underlying9 c10
  clear hlen10 hD10 hr10
  refine hK.out _ _ ?_ (fun hH => ?_)
  · exact HMK.out _ (hb10)
  clear hK K
  try simp only [Act.put, List.setIfInBounds_toArray, List.set_cons_zero, List.set_cons_succ]
  refine wpAnyH_ready (rs := [21]) (by kernel_rfl) (by simp) ?_
  refine AllReadyH.cons (by simp only [List.getElem?_toArray, List.getElem?_cons_succ, List.getElem?_cons_zero]; rfl) (fun K hK => ?_) AllReadyH.nil
  clear hH
  go_simp
  refine hK.out _ _ ?_ (fun hH => ?_)
  · exact HMK.out _ (hb10)
  clear hK K
  try simp only [Act.put, List.setIfInBounds_toArray, List.set_cons_zero, List.set_cons_succ]
  refine wpAnyH_take (i := 22) (v := ?_) (by simp only [List.getElem?_toArray, List.getElem?_cons_succ, List.getElem?_cons_zero]; rfl) (by kernel_rfl) (by kernel_rfl) (by kernel_rfl) (by exact fun _ _ _ h => h) (Or.inl ⟨by rfl, ?_⟩) hH ?_
  rotate_left
  · (intro wy hSw; (try dsimp only at hSw); go_simp; try (with_reducible rfl))
  try simp only [Act.put, List.setIfInBounds_toArray, List.set_cons_zero, List.set_cons_succ]
  refine wpAnyH_take (i := 23) (v := ?_) (by simp only [List.getElem?_toArray, List.getElem?_cons_succ, List.getElem?_cons_zero]; rfl) (by kernel_rfl) (by kernel_rfl) (by kernel_rfl) (by exact fun _ _ _ h => h) (Or.inl ⟨by rfl, ?_⟩) hH ?_
  rotate_left
  · (intro wy hSw; (try dsimp only at hSw); go_simp; try (with_reducible rfl))
  try simp only [Act.put, List.setIfInBounds_toArray, List.set_cons_zero, List.set_cons_succ]
  refine wpAnyH_take (i := 24) (v := ?_) (by simp only [List.getElem?_toArray, List.getElem?_cons_succ, List.getElem?_cons_zero]; rfl) (by kernel_rfl) (by kernel_rfl) (by kernel_rfl) (by exact fun _ _ _ h => h) (Or.inl ⟨by rfl, ?_⟩) hH ?_
  rotate_left
  · (intro wy hSw; (try dsimp only at hSw); go_simp; try (with_reducible rfl))
  try simp only [Act.put, List.setIfInBounds_toArray, List.set_cons_zero, List.set_cons_succ]
  refine wpAnyH_done (by kernel_rfl) ?_ _
  go_wp2_with fail
  go_ret
  exact ⟨rfl, hbf.trans (hb10.mono hbf.size)⟩
end Go.Proofs.Ytmkinndjahkdlaa.Pack
