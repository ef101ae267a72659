/- The document's table: its places; whether texts are the same; an entry as the document's. -/
import Derived.Test.YtabclecfamkanaaDoorKeyRefPut
namespace Go.Proofs.YtabclecfamkanaaDoor.Key
open Go.Proofs.YtabclecfamkanaaDoor.Mem Go.Proofs.YtabclecfamkanaaDoor.Fnv
open Go.ChangeShapes Go.WideShapes Go.ChangeAt Go.RowKit
set_option linter.unusedVariables false
set_option linter.unusedSimpArgs false
def tx (T : Tab) (k : Nat) : List Value := (List.range k).map fun j => .string (txt (look T j))
theorem tx_length (T : Tab) (k : Nat) : (tx T k).length = k := by simp [tx]
theorem tx_succ (T : Tab) (k : Nat) : tx T (k + 1) = tx T k ++ [.string (txt (look T k))] := by simp [tx, List.range_succ]
theorem tx_get (T : Tab) (k j : Nat) (h : j < k) : (tx T k)[j]? = some (.string (txt (look T j))) := by
  unfold tx
  rw [List.getElem?_map, List.getElem?_range h]
  rfl
theorem sees_str (w : World) (s : ByteArray) (t : TypeId) (fr : Nat × Nat) (g : Nat) (hg : g = w.heap.size) : Sees (w.alloc (.cells #[.string s] t fr)) 1 (.slice (some ⟨g, 0, none⟩) 1 1) 1 [.string s] := by
  subst hg
  refine .inr ⟨_, _, rfl, by simp, fun j x hx => ?_⟩
  refine ⟨by simp, ?_⟩
  rw [add_none, Nat.zero_add, World.cell?_alloc_mark]
  simpa using hx
section
variable {w : World} {rp gl gu n : Nat} {T : Tab} {X : List Ent}
set_option maxRecDepth 100000 in
set_option maxHeartbeats 1000000 in
theorem as_any (e : Ent) (w : World) :
    Calls Tryd.prog 12 #[.agg #[.string e.key, .int .i64 e.seg, .int .i64 e.at_, .int .i64 e.len, .int .u64 (e.ver : Int), .int .u64 (e.exp : Int), .int .i64 e.size]] w fun x w' => x = .returned (.agg #[.string e.key, .int .i64 e.seg, .int .i64 e.at_, .int .i64 e.len, .int .u64 (e.ver : Int), .int .u64 (e.exp : Int), .int .i64 e.size]) ∧ But (fun _ => False) w w' := by
  go_enter Tryd.func12, Tryd.ntmps12
  go_wp2_with fail
  have hF : Blk ((w.alloc (.cells #[.string e.key, .int .i64 e.seg, .int .i64 e.at_, .int .i64 e.len, .int .u64 (e.ver : Int), .int .u64 (e.exp : Int), .int .i64 e.size] 32)).alloc (.cells #[.string e.key, .int .i64 e.seg, .int .i64 e.at_, .int .i64 e.len, .int .u64 (e.ver : Int), .int .u64 (e.exp : Int), .int .i64 e.size] 38)) (w.heap.size + 1) 38 #[.string e.key, .int .i64 e.seg, .int .i64 e.at_, .int .i64 e.len, .int .u64 (e.ver : Int), .int .u64 (e.exp : Int), .int .i64 e.size] := by
    have := Blk.new (w.alloc (.cells #[.string e.key, .int .i64 e.seg, .int .i64 e.at_, .int .i64 e.len, .int .u64 (e.ver : Int), .int .u64 (e.exp : Int), .int .i64 e.size] 32)) 38 #[.string e.key, .int .i64 e.seg, .int .i64 e.at_, .int .i64 e.len, .int .u64 (e.ver : Int), .int .u64 (e.exp : Int), .int .i64 e.size]
    rw [alloc_size] at this
    exact this
  refine bodyPost_ret (results_cell_row rfl _ _ (w.heap.size + 1) 38 #[.string e.key, .int .i64 e.seg, .int .i64 e.at_, .int .i64 e.len, .int .u64 (e.ver : Int), .int .u64 (e.exp : Int), .int .i64 e.size] (0, 0) _ rfl hF Tryd.underlying38 rfl rentry_size) rfl ?_
  exact ⟨rfl, ((But.refl _ w).alloc _).alloc _⟩
set_option maxRecDepth 100000 in
set_option maxHeartbeats 1000000 in
theorem rtexts_any (b g c c' : Nat) (f : Nat → ByteArray) (h1 : ∀ j, j < n → w.cell? ⟨b, j, none⟩ = some (.string (f j))) (h2 : ∀ j, j < n → w.cell? ⟨g, j, none⟩ = some (.string (f j))) (hn : n ≤ 4000) (hb : b < w.heap.size) (hg : g < w.heap.size) :
    Calls Tryd.prog 17 #[.slice (some ⟨b, 0, none⟩) n c, .slice (some ⟨g, 0, none⟩) n c'] w fun x w' => x = .returned (.bool true) ∧ But (fun _ => False) w w' := by
  have H1 := Lib.hid h1
  have H2 := Lib.hid h2
  clear h1 h2
  go_enter Tryd.func17, Tryd.ntmps17
  go_wp2_with fail
  go_loopw [5] (fun x wr => ∃ k : Nat, k ≤ n ∧ x = .int .i64 (k : Int) ∧ But (fun _ => False) w wr) (fun x _ => n - (intOf x).toNat)
  case atStart => exact ⟨0, by omega, rfl, But.refl _ _⟩
  case round =>
    obtain ⟨k, hk, rfl, hB⟩ := hrel
    have HB := Lib.hid hB
    by_cases hlt : k < n
    · have c1 := fun j => show (wr.drewN j).cell? ⟨b, k, none⟩ = some (.string (f k)) from (hB.cell (p := ⟨b, k, none⟩) hb (fun h => h)).trans (H1.out k hlt)
      have c2 := fun j => show (wr.drewN j).cell? ⟨g, k, none⟩ = some (.string (f k)) from (hB.cell (p := ⟨g, k, none⟩) hg (fun h => h)).trans (H2.out k hlt)
      obtain ⟨s, hs⟩ : ∃ s, s = f k := ⟨_, rfl⟩
      rw [← hs] at c1 c2
      have hss : (s.toList == s.toList) = true := by simp
      clear hs hB
      go_wp2
      go_quiet (fail)
      have HB2 := Lib.hid (HB.out.drewN nq)
      generalize wr.drewN nq = W2 at HB2 ⊢
      clear c1 c2
      go_wp2
      go_roundw
      case rel => exact ⟨k + 1, by omega, by go_num, HB2.out⟩
      case measure => simp [intOf]; omega
    · clear hB
      go_wp2
      go_ret
      exact ⟨rfl, HB.out⟩
set_option maxRecDepth 100000 in
set_option maxHeartbeats 2000000 in
theorem rplaces_any (h : RLo w rp gl gu T X n) (hc : Can w) :
    Calls Tryd.prog 19 #[.pointer (some ⟨rp, 0, none⟩)] w fun x w' => ∃ g c, x = .returned (.slice (some ⟨g, 0, none⟩) n c) ∧ g < w'.heap.size ∧ (∀ j, j < n → w'.cell? ⟨g, j, none⟩ = some (.string (txt (look T j)))) ∧ But (fun _ => False) w w' := by
  obtain ⟨l1, l2⟩ := h.few
  have HK := Lib.hid h
  have HC := Lib.hid hc
  obtain ⟨i0, hi0, hz⟩ := Option.map_eq_some_iff.1 string_info
  simp only [Prod.mk.injEq] at hz
  obtain ⟨hz0, hz1, hz2⟩ := hz
  clear h hc
  go_enter Tryd.func19, Tryd.ntmps19
  go_wp2_with fail
  go_loopw [3, 4] (fun v x wr => ∃ k : Nat, k ≤ n ∧ x = .int .i64 (k : Int) ∧ wr.ownsRow w.heap.size 9 1 v k (tx T k) ∧ But (fun _ => False) w wr) (fun _ x _ => n - (intOf x).toNat)
  case atStart => exact ⟨0, by omega, rfl, ⟨rfl, .inl ⟨rfl, rfl⟩⟩, But.refl _ _⟩
  case round =>
    obtain ⟨k, hk, rfl, hO, hB⟩ := hrel
    have HO := Lib.hid hO
    have HB := Lib.hid hB
    have hKr := HK.out.but hB (fun h => h) (fun h => h) (fun h => h)
    have HKR := Lib.hid hKr
    have c0 : wr.cell? ⟨rp, 0, none⟩ = some (.slice (some ⟨gl, 0, none⟩) n n) := hKr.blk.cell 0
    have c1 : wr.cell? ⟨rp, 1, none⟩ = some (.slice (some ⟨gu, 0, none⟩) n n) := hKr.blk.cell 1
    by_cases hlt : k < n
    · have u0 := hKr.used hlt
      have HTX := Lib.hid (tx_succ T k)
      cases hq : look T k with
      | none =>
        rw [hq] at u0 HTX
        have u1 : wr.cell? ⟨gu, k, none⟩ = some (.bool false) := u0
        clear u0 hq hO hB hKr
        go_wp2_with (first | (at_builtin; refine wpList_append_onto rfl (.tmp 42) (.tmp 44) _ rfl w.heap.size 9 i0 _ 1 16 Tryd.underlying49 hi0 hz0 hz1 hz2 rfl (by omega) _ k (tx T k) rfl (ownsRow_alloc HO.out _) (.slice (some ⟨wr.heap.size, 0, none⟩) 1 1) 1 [.string (txt none)] rfl (sees_str _ _ _ _ _ rfl) (by simp [Value.oneCell']) (by simp only [maxLen]; omega) (by omega) (by rw [alloc_size]; have := HB.out.size; omega) ?_; intro v5 w5 ho5 hon5))
        rw [← HTX.out] at ho5
        have hon := hon5.of_alloc (fun k hk => (HO.out.lt k hk).2)
        have HB5 := Lib.hid (HB.out.trans hon.but (fun j hj e => by have := HO.out.lt j e.symm; omega))
        have HO5 := Lib.hid ho5
        clear ho5 hon hon5 c0 c1 u1
        go_roundw
        case rel => exact ⟨k + 1, by omega, by go_num, HO5.out, HB5.out⟩
        case measure => simp [intOf]; omega
      | some e =>
        rw [hq] at u0 HTX
        have u1 : wr.cell? ⟨gu, k, none⟩ = some (.bool true) := u0
        have hsm := hKr.small e (look_mem.2 ⟨k, hq⟩)
        have HCE := Lib.hid (fun V (hV : But (fun _ => False) wr.drew V) => show V.cell? ⟨gl, k * 7, none⟩ = some (.string e.key) from ((hKr.but ((But.refl (fun _ => False) wr).drew) (fun h => h) (fun h => h) (fun h => h)).but hV (fun h => h) (fun h => h) (fun h => h)).ent hq 0 (by omega))
        have HC0 := Lib.hid (fun V (hV : But (fun _ => False) wr.drew V) => show V.cell? ⟨rp, 0, none⟩ = some (.slice (some ⟨gl, 0, none⟩) n n) from ((hKr.but ((But.refl (fun _ => False) wr).drew) (fun h => h) (fun h => h) (fun h => h)).but hV (fun h => h) (fun h => h) (fun h => h)).blk.cell 0)
        have HIT := Lib.hid (itoa_any (w := wr.drew) e.key.size hsm (HC.out.but (hB.trans ((But.refl (fun _ => False) wr).drew) (fun j hj h => h)) (fun _ _ h => h)))
        have hsz : (e.key.size : Int) ≤ 100 := by omega
        have hl1 : ¬ 9223372036854775807 < (dec e.key.size).length + 1 := by have := dec_len e.key.size; omega
        have hl2 : ¬ 9223372036854775807 < (dec e.key.size).length + 1 + e.key.size := by have := dec_len e.key.size; omega
        have hki : (k : Int) < (n : Int) := by omega
        clear u0 hq hO hB hKr
        go_wp2_with fail
        clear c0 c1 u1
        refine Late.region_goes (fun V => But (fun _ => False) wr.drew V) (fun _ => false) (by kernel_rfl) ?_ (fun hH => ?_)
        · exact But.refl _ _
        refine Late.Goes.takeT (i := 0) (v := ?_) (by simp only [List.getElem?_toArray, List.getElem?_cons_succ, List.getElem?_cons_zero]; rfl) (by kernel_rfl) (by kernel_rfl) (by kernel_rfl) (by kernel_rfl) (by kernel_rfl) (by exact fun _ _ _ h => h) (Or.inl ⟨by rfl, ?_⟩) hH ?_
        rotate_left
        · (intro wy hSw; (try dsimp only at hSw); have k0 := HC0.out wy hSw; have k1 := HCE.out wy hSw; go_simp; try (with_reducible rfl))
        try simp only [Act.put, List.setIfInBounds_toArray, List.set_cons_zero, List.set_cons_succ]
        refine Late.Goes.takeT (i := 1) (v := ?_) (by simp only [List.getElem?_toArray, List.getElem?_cons_succ, List.getElem?_cons_zero]; rfl) (by kernel_rfl) (by kernel_rfl) (by kernel_rfl) (by kernel_rfl) (by kernel_rfl) (by exact fun _ _ _ h => h) (Or.inl ⟨by rfl, ?_⟩) hH ?_
        rotate_left
        · (intro wy hSw; (try dsimp only at hSw); have k0 := HC0.out wy hSw; have k1 := HCE.out wy hSw; go_simp; try (with_reducible rfl))
        try simp only [Act.put, List.setIfInBounds_toArray, List.set_cons_zero, List.set_cons_succ]
        refine Late.Goes.takeT (i := 2) (v := ?_) (by simp only [List.getElem?_toArray, List.getElem?_cons_succ, List.getElem?_cons_zero]; rfl) (by kernel_rfl) (by kernel_rfl) (by kernel_rfl) (by kernel_rfl) (by kernel_rfl) (by exact fun _ _ _ h => h) (Or.inl ⟨by rfl, ?_⟩) hH ?_
        rotate_left
        · (intro wy hSw; (try dsimp only at hSw); have k0 := HC0.out wy hSw; have k1 := HCE.out wy hSw; go_simp; try (with_reducible rfl))
        try simp only [Act.put, List.setIfInBounds_toArray, List.set_cons_zero, List.set_cons_succ]
        refine Late.Goes.takeT (i := 3) (v := ?_) (by simp only [List.getElem?_toArray, List.getElem?_cons_succ, List.getElem?_cons_zero]; rfl) (by kernel_rfl) (by kernel_rfl) (by kernel_rfl) (by kernel_rfl) (by kernel_rfl) (by exact fun _ _ _ h => h) (Or.inl ⟨by rfl, ?_⟩) hH ?_
        rotate_left
        · (intro wy hSw; (try dsimp only at hSw); have k0 := HC0.out wy hSw; have k1 := HCE.out wy hSw; go_simp; try (with_reducible rfl))
        try simp only [Act.put, List.setIfInBounds_toArray, List.set_cons_zero, List.set_cons_succ]
        refine Late.Goes.takeT (i := 4) (v := ?_) (by simp only [List.getElem?_toArray, List.getElem?_cons_succ, List.getElem?_cons_zero]; rfl) (by kernel_rfl) (by kernel_rfl) (by kernel_rfl) (by kernel_rfl) (by kernel_rfl) (by exact fun _ _ _ h => h) (Or.inl ⟨by rfl, ?_⟩) hH ?_
        rotate_left
        · (intro wy hSw; (try dsimp only at hSw); have k0 := HC0.out wy hSw; have k1 := HCE.out wy hSw; go_simp; try (with_reducible rfl))
        try simp only [Act.put, List.setIfInBounds_toArray, List.set_cons_zero, List.set_cons_succ]
        refine Late.Goes.takeT (i := 5) (v := ?_) (by simp only [List.getElem?_toArray, List.getElem?_cons_succ, List.getElem?_cons_zero]; rfl) (by kernel_rfl) (by kernel_rfl) (by kernel_rfl) (by kernel_rfl) (by kernel_rfl) (by exact fun _ _ _ h => h) (Or.inl ⟨by rfl, ?_⟩) hH ?_
        rotate_left
        · (intro wy hSw; (try dsimp only at hSw); have k0 := HC0.out wy hSw; have k1 := HCE.out wy hSw; go_simp; try (with_reducible rfl))
        try simp only [Act.put, List.setIfInBounds_toArray, List.set_cons_zero, List.set_cons_succ]
        refine Late.Goes.takeT (i := 6) (v := ?_) (by simp only [List.getElem?_toArray, List.getElem?_cons_succ, List.getElem?_cons_zero]; rfl) (by kernel_rfl) (by kernel_rfl) (by kernel_rfl) (by kernel_rfl) (by kernel_rfl) (by exact fun _ _ _ h => h) (Or.inl ⟨by rfl, ?_⟩) hH ?_
        rotate_left
        · (intro wy hSw; (try dsimp only at hSw); have k0 := HC0.out wy hSw; have k1 := HCE.out wy hSw; go_simp; try (with_reducible rfl))
        try simp only [Act.put, List.setIfInBounds_toArray, List.set_cons_zero, List.set_cons_succ]
        refine Late.Goes.takeT (i := 7) (v := ?_) (by simp only [List.getElem?_toArray, List.getElem?_cons_succ, List.getElem?_cons_zero]; rfl) (by kernel_rfl) (by kernel_rfl) (by kernel_rfl) (by kernel_rfl) (by kernel_rfl) (by exact fun _ _ _ h => h) (Or.inl ⟨by rfl, ?_⟩) hH ?_
        rotate_left
        · (intro wy hSw; (try dsimp only at hSw); have k0 := HC0.out wy hSw; have k1 := HCE.out wy hSw; go_simp; try (with_reducible rfl))
        try simp only [Act.put, List.setIfInBounds_toArray, List.set_cons_zero, List.set_cons_succ]
        refine Late.Goes.takeT (i := 8) (v := ?_) (by simp only [List.getElem?_toArray, List.getElem?_cons_succ, List.getElem?_cons_zero]; rfl) (by kernel_rfl) (by kernel_rfl) (by kernel_rfl) (by kernel_rfl) (by kernel_rfl) (by exact fun _ _ _ h => h) (Or.inl ⟨by rfl, ?_⟩) hH ?_
        rotate_left
        · (intro wy hSw; (try dsimp only at hSw); have k0 := HC0.out wy hSw; have k1 := HCE.out wy hSw; go_simp; try (with_reducible rfl))
        try simp only [Act.put, List.setIfInBounds_toArray, List.set_cons_zero, List.set_cons_succ]
        refine Late.Goes.takeT (i := 11) (v := ?_) (by simp only [List.getElem?_toArray, List.getElem?_cons_succ, List.getElem?_cons_zero]; rfl) (by kernel_rfl) (by kernel_rfl) (by kernel_rfl) (by kernel_rfl) (by kernel_rfl) (by exact fun _ _ _ h => h) (Or.inl ⟨by rfl, ?_⟩) hH ?_
        rotate_left
        · (intro wy hSw; (try dsimp only at hSw); have k0 := HC0.out wy hSw; have k1 := HCE.out wy hSw; go_simp; try (with_reducible rfl))
        try simp only [Act.put, List.setIfInBounds_toArray, List.set_cons_zero, List.set_cons_succ]
        refine Late.Goes.takeT (i := 12) (v := ?_) (by simp only [List.getElem?_toArray, List.getElem?_cons_succ, List.getElem?_cons_zero]; rfl) (by kernel_rfl) (by kernel_rfl) (by kernel_rfl) (by kernel_rfl) (by kernel_rfl) (by exact fun _ _ _ h => h) (Or.inl ⟨by rfl, ?_⟩) hH ?_
        rotate_left
        · (intro wy hSw; (try dsimp only at hSw); have k0 := HC0.out wy hSw; have k1 := HCE.out wy hSw; go_simp; try (with_reducible rfl))
        try simp only [Act.put, List.setIfInBounds_toArray, List.set_cons_zero, List.set_cons_succ]
        refine Late.Goes.takeT (i := 13) (v := ?_) (by simp only [List.getElem?_toArray, List.getElem?_cons_succ, List.getElem?_cons_zero]; rfl) (by kernel_rfl) (by kernel_rfl) (by kernel_rfl) (by kernel_rfl) (by kernel_rfl) (by exact fun _ _ _ h => h) (Or.inl ⟨by rfl, ?_⟩) hH ?_
        rotate_left
        · (intro wy hSw; (try dsimp only at hSw); have k0 := HC0.out wy hSw; have k1 := HCE.out wy hSw; go_simp; try (with_reducible rfl))
        try simp only [Act.put, List.setIfInBounds_toArray, List.set_cons_zero, List.set_cons_succ]
        refine Late.Goes.takeT (i := 14) (v := ?_) (by simp only [List.getElem?_toArray, List.getElem?_cons_succ, List.getElem?_cons_zero]; rfl) (by kernel_rfl) (by kernel_rfl) (by kernel_rfl) (by kernel_rfl) (by kernel_rfl) (by exact fun _ _ _ h => h) (Or.inl ⟨by rfl, ?_⟩) hH ?_
        rotate_left
        · (intro wy hSw; (try dsimp only at hSw); have k0 := HC0.out wy hSw; have k1 := HCE.out wy hSw; go_simp; try (with_reducible rfl))
        try simp only [Act.put, List.setIfInBounds_toArray, List.set_cons_zero, List.set_cons_succ]
        refine Late.Goes.takeT (i := 15) (v := ?_) (by simp only [List.getElem?_toArray, List.getElem?_cons_succ, List.getElem?_cons_zero]; rfl) (by kernel_rfl) (by kernel_rfl) (by kernel_rfl) (by kernel_rfl) (by kernel_rfl) (by exact fun _ _ _ h => h) (Or.inl ⟨by rfl, ?_⟩) hH ?_
        rotate_left
        · (intro wy hSw; (try dsimp only at hSw); have k0 := HC0.out wy hSw; have k1 := HCE.out wy hSw; go_simp; try (with_reducible rfl))
        try simp only [Act.put, List.setIfInBounds_toArray, List.set_cons_zero, List.set_cons_succ]
        refine Late.Goes.takeT (i := 16) (v := ?_) (by simp only [List.getElem?_toArray, List.getElem?_cons_succ, List.getElem?_cons_zero]; rfl) (by kernel_rfl) (by kernel_rfl) (by kernel_rfl) (by kernel_rfl) (by kernel_rfl) (by exact fun _ _ _ h => h) (Or.inl ⟨by rfl, ?_⟩) hH ?_
        rotate_left
        · (intro wy hSw; (try dsimp only at hSw); have k0 := HC0.out wy hSw; have k1 := HCE.out wy hSw; go_simp; try (with_reducible rfl))
        try simp only [Act.put, List.setIfInBounds_toArray, List.set_cons_zero, List.set_cons_succ]
        refine Late.Goes.takeT (i := 17) (v := ?_) (by simp only [List.getElem?_toArray, List.getElem?_cons_succ, List.getElem?_cons_zero]; rfl) (by kernel_rfl) (by kernel_rfl) (by kernel_rfl) (by kernel_rfl) (by kernel_rfl) (by exact fun _ _ _ h => h) (Or.inl ⟨by rfl, ?_⟩) hH ?_
        rotate_left
        · (intro wy hSw; (try dsimp only at hSw); have k0 := HC0.out wy hSw; have k1 := HCE.out wy hSw; go_simp; try (with_reducible rfl))
        try simp only [Act.put, List.setIfInBounds_toArray, List.set_cons_zero, List.set_cons_succ]
        refine Late.Goes.takeT (i := 18) (v := ?_) (by simp only [List.getElem?_toArray, List.getElem?_cons_succ, List.getElem?_cons_zero]; rfl) (by kernel_rfl) (by kernel_rfl) (by kernel_rfl) (by kernel_rfl) (by kernel_rfl) (by exact fun _ _ _ h => h) (Or.inl ⟨by rfl, ?_⟩) hH ?_
        rotate_left
        · (intro wy hSw; (try dsimp only at hSw); have k0 := HC0.out wy hSw; have k1 := HCE.out wy hSw; go_simp; try (with_reducible rfl))
        try simp only [Act.put, List.setIfInBounds_toArray, List.set_cons_zero, List.set_cons_succ]
        refine Late.Goes.one (i := 9) (by kernel_rfl) (by simp only [List.getElem?_toArray, List.getElem?_cons_succ, List.getElem?_cons_zero]; rfl) (fun K hK => ?_)
        clear hH
        go_simp
        go_at_call 27
        refine HIT.out.mono ?_
        rintro e1 W3 ⟨rfl, hb3⟩
        have HB3 := Lib.hid hb3
        clear hb3
        refine hK.out _ _ ?_ (fun hH => ?_)
        · exact fun _ => HB3.out
        clear hK K
        have hH := hH rfl
        try simp only [Act.put, List.setIfInBounds_toArray, List.set_cons_zero, List.set_cons_succ]
        refine Late.Goes.takeT (i := 10) (v := ?_) (by simp only [List.getElem?_toArray, List.getElem?_cons_succ, List.getElem?_cons_zero]; rfl) (by kernel_rfl) (by kernel_rfl) (by kernel_rfl) (by kernel_rfl) (by kernel_rfl) (by exact fun _ _ _ h => h) (Or.inl ⟨by rfl, ?_⟩) hH ?_
        rotate_left
        · (intro wy hSw; (try dsimp only at hSw); have k0 := HC0.out wy hSw; have k1 := HCE.out wy hSw; go_simp; try (with_reducible rfl))
        try simp only [Act.put, List.setIfInBounds_toArray, List.set_cons_zero, List.set_cons_succ]
        refine Late.Goes.takeT (i := 19) (v := ?_) (by simp only [List.getElem?_toArray, List.getElem?_cons_succ, List.getElem?_cons_zero]; rfl) (by kernel_rfl) (by kernel_rfl) (by kernel_rfl) (by kernel_rfl) (by kernel_rfl) (by exact fun _ _ _ h => h) (Or.inl ⟨by rfl, ?_⟩) hH ?_
        rotate_left
        · (intro wy hSw; (try dsimp only at hSw); have k0 := HC0.out wy hSw; have k1 := HCE.out wy hSw; go_simp; try (with_reducible rfl))
        try simp only [Act.put, List.setIfInBounds_toArray, List.set_cons_zero, List.set_cons_succ]
        refine Late.Goes.takeT (i := 20) (v := ?_) (by simp only [List.getElem?_toArray, List.getElem?_cons_succ, List.getElem?_cons_zero]; rfl) (by kernel_rfl) (by kernel_rfl) (by kernel_rfl) (by kernel_rfl) (by kernel_rfl) (by exact fun _ _ _ h => h) (Or.inl ⟨by rfl, ?_⟩) hH ?_
        rotate_left
        · (intro wy hSw; (try dsimp only at hSw); have k0 := HC0.out wy hSw; have k1 := HCE.out wy hSw; go_simp; try (with_reducible rfl))
        try simp only [Act.put, List.setIfInBounds_toArray, List.set_cons_zero, List.set_cons_succ]
        refine Late.Goes.done (by kernel_rfl) ?_ _
        have HB4 := Lib.hid (show But (fun _ => False) w W3 from (HB.out.trans ((But.refl (fun _ => False) wr).drew) (fun j hj h => h)).trans HB3.out (fun j hj h => h))
        have HO4 := Lib.hid (ownsRow_but HO.out ((But.refl (fun _ => False) wr).drew.trans HB3.out (fun j hj h => h)) (fun _ _ h => h))
        go_wp2_with (first | (at_builtin; refine wpList_append_onto rfl (.tmp 42) (.tmp 44) _ rfl w.heap.size 9 i0 _ 1 16 Tryd.underlying49 hi0 hz0 hz1 hz2 rfl (by omega) _ k (tx T k) rfl (ownsRow_alloc HO4.out _) (.slice (some ⟨W3.heap.size, 0, none⟩) 1 1) 1 [.string (txt (some e))] rfl (sees_str _ _ _ _ _ rfl) (by simp [Value.oneCell']) (by simp only [maxLen]; omega) (by omega) (by rw [alloc_size]; have := HB4.out.size; omega) ?_; intro v5 w5 ho5 hon5))
        rw [← HTX.out] at ho5
        have hon := hon5.of_alloc (fun k hk => (HO4.out.lt k hk).2)
        have HB5 := Lib.hid (HB4.out.trans hon.but (fun j hj e => by have := HO4.out.lt j e.symm; omega))
        have HO5 := Lib.hid ho5
        clear ho5 hon hon5
        go_roundw
        case rel => exact ⟨k + 1, by omega, by go_num, HO5.out, HB5.out⟩
        case measure => simp [intOf]; omega
    · have hkn : k = n := by omega
      rw [hkn] at hO
      have HO2 := Lib.hid hO
      clear hO hB hKr HO
      go_wp2_with fail
      have ho := HO2.out
      rcases ho.2 with ⟨_, h⟩ | ⟨g, cap, cur, hv, _⟩
      · omega
      · subst hv
        go_ret
        exact ⟨g, cap, rfl, (ho.lt g rfl).2, fun j hj => by rw [ho.cellAt j (by omega), tx_get T n j hj], HB.out⟩
end
end Go.Proofs.YtabclecfamkanaaDoor.Key
