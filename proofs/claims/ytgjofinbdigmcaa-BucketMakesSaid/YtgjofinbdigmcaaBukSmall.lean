/- Contracts of the bucket's small calls: bytesOf, behind, isOfKey, Get, and the numbers. -/
import Derived.Test.YtgjofinbdigmcaaBukA
namespace Go.Proofs.Ytgjofinbdigmcaa.Buk
open Go.Proofs.Ytgjofinbdigmcaa.Mem
open Go.ChangeShapes Go.WideShapes Go.ChangeAt Go.RowKit
set_option linter.unusedVariables false
set_option linter.unusedSimpArgs false
abbrev entB (e : Ent) : Array Value := (Key.ecells e).toArray
set_option maxRecDepth 100000 in
set_option maxHeartbeats 1000000 in
theorem bytes_of (e : Ent) (h1 : e.key.size ≤ 100000) (h2 : 0 ≤ e.size ∧ e.size ≤ 100000) (w : World) :
    Calls Try.prog 35 #[Key.ev e] w fun x w' => x = .returned (.int .i64 (of e)) ∧ But (fun _ => False) w w' := by
  have hx := Blk.new w 39 (entB e)
  have hb := (But.refl (fun _ => False) w).alloc (.cells (entB e) 39)
  have HB := Lib.hid hb
  have x0 : (w.alloc (.cells (entB e) 39)).cell? ⟨w.heap.size, 0, none⟩ = some (.string e.key) := hx.cell 0
  have x6 : (w.alloc (.cells (entB e) 39)).cell? ⟨w.heap.size, 6, none⟩ = some (.int .i64 e.size) := hx.cell 6
  unfold of
  obtain ⟨n, hn⟩ : ∃ n, n = e.key.size := ⟨_, rfl⟩
  change Calls _ _ #[.agg #[.string e.key, .int .i64 e.seg, .int .i64 e.at_, .int .i64 e.len, .int .u64 (e.ver : Int), .int .u64 (e.exp : Int), .int .i64 e.size]] w _
  clear hx hb
  go_enter Try.func35, Try.ntmps35
  go_wp2_with fail
  go_ret
  exact ⟨by first | rfl | (simp; omega), HB.out⟩
set_option maxHeartbeats 1000000 in
theorem behind64 (c n : Nat) (hc : c < 18446744073709551616) (hn : n < 18446744073709551616) (w : World) :
    Calls Try.prog 21 #[.int .u64 (c : Int), .int .u64 (n : Int)] w fun x w' => x = .returned (.int .u64 ((b64 c n : Nat) : Int)) ∧ w = w' := by
  obtain ⟨v, hv, hv2⟩ : ∃ v : Nat, IntKind.u64.wrap ((n : Int) + 1) = (v : Int) ∧ (n = 18446744073709551615 ∧ v = 0 ∨ n < 18446744073709551615 ∧ v = n + 1) := by
    by_cases h : n = 18446744073709551615
    · exact ⟨0, by rw [h]; rfl, .inl ⟨h, rfl⟩⟩
    · exact ⟨n + 1, by rw [IntWalk.u64_in _ (by omega)]; rfl, .inr ⟨by omega, rfl⟩⟩
  have H := Lib.hid (And.intro hc (And.intro hn hv2))
  clear hc hn hv2
  go_enter Try.func21, Try.ntmps21
  go_wp2
  all_goals (try go_ret)
  all_goals (refine ⟨congrArg (fun z => Ending.returned (Value.int IntKind.u64 z)) ?_, rfl⟩; have := H.out; unfold b64 bump)
  all_goals (first | omega | (split at * <;> omega) | (simp at *; omega))
set_option maxHeartbeats 1000000 in
theorem behind32 (c n : Nat) (hc : c < 4294967296) (hn : n < 4294967296) (w : World) :
    Calls Try.prog 24 #[.int .u32 (c : Int), .int .u32 (n : Int)] w fun x w' => x = .returned (.int .u32 ((b32 c n : Nat) : Int)) ∧ w = w' := by
  obtain ⟨v, hv, hv2⟩ : ∃ v : Nat, IntKind.u32.wrap ((n : Int) + 1) = (v : Int) ∧ (n = 4294967295 ∧ v = 0 ∨ n < 4294967295 ∧ v = n + 1) := by
    by_cases h : n = 4294967295
    · exact ⟨0, by rw [h]; rfl, .inl ⟨h, rfl⟩⟩
    · exact ⟨n + 1, by rw [IntWalk.u32_in _ (by omega)]; rfl, .inr ⟨by omega, rfl⟩⟩
  have H := Lib.hid (And.intro hc (And.intro hn hv2))
  clear hc hn hv2
  go_enter Try.func24, Try.ntmps24
  go_wp2
  all_goals (try go_ret)
  all_goals (refine ⟨congrArg (fun z => Ending.returned (Value.int IntKind.u32 z)) ?_, rfl⟩; have := H.out; unfold b32 bump)
  all_goals (first | omega | (split at * <;> omega) | (simp at *; omega))
section
variable {w w' : World} {s : Bl} {B : Bk} {T : Tab} {m : List It} {i : Nat}
theorem keys_any (h : BM w s B T m i) : Calls Try.prog 9 #[.pointer (some ⟨s.p, 0, none⟩)] w fun e w' => e = .returned (.int .i64 (Key.cnt T : Int)) ∧ But (fun _ => False) w w' := by
  have k7 : w.cell? ⟨s.p, 7, none⟩ = some (.pointer (some ⟨s.kp, 0, none⟩)) := h.cell 7
  have HL := Lib.hid (Key.klen_any h.key)
  have hc : Key.cnt T ≤ 400 := by have := h.key.good.few; have := h.key.few; omega
  obtain ⟨c, hcd⟩ : ∃ c, c = Key.cnt T := ⟨_, rfl⟩
  rw [← hcd] at HL hc ⊢
  clear h hcd
  go_enter Try.func9, Try.ntmps9
  go_wp2_with fail
  refine HL.out.mono ?_
  rintro e w' ⟨rfl, rfl⟩
  go_wp2_with fail
  go_ret
  exact ⟨by first | rfl | (simp; omega), But.refl _ _⟩
theorem bytes_any (h : BM w s B T m i) : Calls Try.prog 10 #[.pointer (some ⟨s.p, 0, none⟩)] w fun e w' => e = .returned (.int .i64 B.bytes) ∧ w = w' := by
  have k7 : w.cell? ⟨s.p, 10, none⟩ = some (.int .i64 B.bytes) := h.cell 10
  clear h
  go_enter Try.func10, Try.ntmps10
  go_wp2_with fail
  go_ret
  exact ⟨rfl, rfl⟩
theorem charged_any (h : BM w s B T m i) : Calls Try.prog 11 #[.pointer (some ⟨s.p, 0, none⟩)] w fun e w' => e = .returned (.int .i64 B.charged) ∧ w = w' := by
  have k7 : w.cell? ⟨s.p, 11, none⟩ = some (.int .i64 B.charged) := h.cell 11
  clear h
  go_enter Try.func11, Try.ntmps11
  go_wp2_with fail
  go_ret
  exact ⟨rfl, rfl⟩
set_option maxRecDepth 100000 in
set_option maxHeartbeats 1000000 in
theorem get_any (h : BM w s B T m i) (k : ByteArray) (hk : k.size ≤ 200) : Calls Try.prog 8 #[.pointer (some ⟨s.p, 0, none⟩), .string k] w fun e w' => e = .returned (.tuple #[Key.ev (Key.ent (Key.ask T k)), .bool (Key.ask T k).isSome]) ∧ But (fun _ => False) w w' := by
  have HX := Lib.hid (Blk.new w 39 (entB Key.zero))
  have HB := Lib.hid ((But.refl (fun _ => False) w).alloc (.cells (entB Key.zero) 39))
  have hW := h.new HB.out
  have k7 : (w.alloc (.cells #[.string ⟨#[]⟩, .int .i64 0, .int .i64 0, .int .i64 0, .int .u64 0, .int .u64 0, .int .i64 0] 39)).cell? ⟨s.p, 7, none⟩ = some (.pointer (some ⟨s.kp, 0, none⟩)) := hW.cell 7
  have HG := Lib.hid (Key.kget_any hW.key k hk)
  obtain ⟨o, ho⟩ : ∃ o, o = Key.ask T k := ⟨_, rfl⟩
  rw [← ho] at HG ⊢
  clear h hW ho
  go_enter Try.func8, Try.ntmps8
  go_wp2_with fail
  change Calls _ _ _ (w.alloc (.cells (entB Key.zero) 39)) _
  refine HG.out.mono ?_
  rintro e w1 ⟨rfl, hb1⟩
  have HX1 := Lib.hid (HX.out.but hb1 (fun h => h))
  have HB1 := Lib.hid (HB.out.trans hb1 (fun _ _ h => h))
  obtain ⟨b, hb⟩ : ∃ b, b = w.heap.size := ⟨_, rfl⟩
  rw [← hb] at HX1 ⊢
  have HBE := Lib.hid hb
  clear hb hb1 k7
  have HT := Lib.hid (blk_there0 HX1.out (n := 7) (by rfl))
  go_wp2_with (refine wpList_store_mid rfl 39 _ _ rfl b 0 (Key.ecells (Key.ent o)).toArray rfl rfl (by simp only [List.size_toArray, Key.ecells_length]; exact HT.out) (by simp only [List.size_toArray, Key.ecells_length]; exact Key.entry_size) (all_oneCell_toArray (Key.ecells_one _)) ?_)
  have HS := Lib.hid (And.intro (blk_set0 (vs := Key.ecells (Key.ent o)) HX1.out (by rw [Key.ecells_length]; rfl)) (HB1.out.trans (but_setCells b (Key.ecells (Key.ent o)) 0 w1) (fun k hk e => by have := HBE.out; omega)))
  change bodyPost _ _ _ _ _ (w1.setCells b 0 (Key.ecells (Key.ent o)))
  generalize w1.setCells b 0 (Key.ecells (Key.ent o)) = W3 at HS ⊢
  refine bodyPost_ret (Key.results_row_tmp rfl _ _ b 39 (Key.ecells (Key.ent o)).toArray (0, 0) _ rfl HS.out.1 Try.underlying39 rfl Key.entry_size) rfl ?_
  exact ⟨rfl, HS.out.2⟩
abbrev itB (x : It) : Array Value := #[.int .u64 (x.time : Int), .string x.key]
set_option maxRecDepth 100000 in
set_option maxHeartbeats 1000000 in
theorem isof_any (h : BM w s B T m i) (x : It) (hx : x.key.size ≤ 200) : Calls Try.prog 44 #[.pointer (some ⟨s.p, 0, none⟩), .agg #[.int .u64 (x.time : Int), .string x.key]] w fun e w' => e = .returned (.bool (isOf T x)) ∧ But (fun _ => False) w w' := by
  have HX := Lib.hid (Blk.new w 83 (itB x))
  have HB0 := Lib.hid ((But.refl (fun _ => False) w).alloc (.cells (itB x) 83))
  have HG := Lib.hid (fun V (hV : But (fun _ => False) w V) => Key.kget_any (h.new hV).key x.key hx)
  have HC7 := Lib.hid (fun V (hV : But (fun _ => False) w V) => show V.cell? ⟨s.p, 7, none⟩ = some (.pointer (some ⟨s.kp, 0, none⟩)) from (h.new hV).cell 7)
  unfold isOf
  obtain ⟨o, ho⟩ : ∃ o, o = Key.ask T x.key := ⟨_, rfl⟩
  rw [← ho] at HG ⊢
  clear h ho
  go_enter Try.func44, Try.ntmps44
  go_wp2_with fail
  obtain ⟨b3, hb3⟩ : ∃ b, b = w.heap.size := ⟨_, rfl⟩
  change Code.wp _ _ _ _ (w.alloc (.cells (itB x) 83))
  rw [← hb3] at HX ⊢
  generalize w.alloc (.cells (itB x) 83) = W at HX HB0 ⊢
  have HBL := Lib.hid (show w.heap.size ≤ b3 by omega)
  clear hb3
  have HXC := Lib.hid (fun V (hV : Blk V b3 83 (itB x)) => (And.intro (show V.cell? ⟨b3, 0, none⟩ = some (.int .u64 (x.time : Int)) from hV.cell 0) (show V.cell? ⟨b3, 1, none⟩ = some (.string x.key) from hV.cell 1)))
  refine Late.region_goes (fun V => But (fun _ => False) w V ∧ Blk V b3 83 (itB x)) (fun _ => false) (by kernel_rfl) ?_ (fun hH => ?_)
  · exact ⟨HB0.out.drew, HX.out.but ((But.refl (fun _ => False) W).drew) (fun h => h)⟩
  refine Late.Goes.takeT (i := 0) (v := ?_) (by simp only [List.getElem?_toArray, List.getElem?_cons_succ, List.getElem?_cons_zero]; rfl) (by kernel_rfl) (by kernel_rfl) (by kernel_rfl) (by kernel_rfl) (by kernel_rfl) (by exact fun _ _ _ h => h) (Or.inl ⟨by rfl, ?_⟩) hH ?_
  rotate_left
  · (intro wy hSw; (try dsimp only at hSw); have k0 := HC7.out wy hSw.1; have k1 := (HXC.out wy hSw.2).2; go_simp; try (with_reducible rfl))
  try simp only [Act.put, List.setIfInBounds_toArray, List.set_cons_zero, List.set_cons_succ]
  refine Late.Goes.takeT (i := 1) (v := ?_) (by simp only [List.getElem?_toArray, List.getElem?_cons_succ, List.getElem?_cons_zero]; rfl) (by kernel_rfl) (by kernel_rfl) (by kernel_rfl) (by kernel_rfl) (by kernel_rfl) (by exact fun _ _ _ h => h) (Or.inl ⟨by rfl, ?_⟩) hH ?_
  rotate_left
  · (intro wy hSw; (try dsimp only at hSw); have k0 := HC7.out wy hSw.1; have k1 := (HXC.out wy hSw.2).2; go_simp; try (with_reducible rfl))
  try simp only [Act.put, List.setIfInBounds_toArray, List.set_cons_zero, List.set_cons_succ]
  refine Late.Goes.takeT (i := 2) (v := ?_) (by simp only [List.getElem?_toArray, List.getElem?_cons_succ, List.getElem?_cons_zero]; rfl) (by kernel_rfl) (by kernel_rfl) (by kernel_rfl) (by kernel_rfl) (by kernel_rfl) (by exact fun _ _ _ h => h) (Or.inl ⟨by rfl, ?_⟩) hH ?_
  rotate_left
  · (intro wy hSw; (try dsimp only at hSw); have k0 := HC7.out wy hSw.1; have k1 := (HXC.out wy hSw.2).2; go_simp; try (with_reducible rfl))
  try simp only [Act.put, List.setIfInBounds_toArray, List.set_cons_zero, List.set_cons_succ]
  refine Late.Goes.takeT (i := 3) (v := ?_) (by simp only [List.getElem?_toArray, List.getElem?_cons_succ, List.getElem?_cons_zero]; rfl) (by kernel_rfl) (by kernel_rfl) (by kernel_rfl) (by kernel_rfl) (by kernel_rfl) (by exact fun _ _ _ h => h) (Or.inl ⟨by rfl, ?_⟩) hH ?_
  rotate_left
  · (intro wy hSw; (try dsimp only at hSw); have k0 := HC7.out wy hSw.1; have k1 := (HXC.out wy hSw.2).2; go_simp; try (with_reducible rfl))
  try simp only [Act.put, List.setIfInBounds_toArray, List.set_cons_zero, List.set_cons_succ]
  refine Late.Goes.takeT (i := 4) (v := ?_) (by simp only [List.getElem?_toArray, List.getElem?_cons_succ, List.getElem?_cons_zero]; rfl) (by kernel_rfl) (by kernel_rfl) (by kernel_rfl) (by kernel_rfl) (by kernel_rfl) (by exact fun _ _ _ h => h) (Or.inl ⟨by rfl, ?_⟩) hH ?_
  rotate_left
  · (intro wy hSw; (try dsimp only at hSw); have k0 := HC7.out wy hSw.1; have k1 := (HXC.out wy hSw.2).2; go_simp; try (with_reducible rfl))
  try simp only [Act.put, List.setIfInBounds_toArray, List.set_cons_zero, List.set_cons_succ]
  refine Late.Goes.takeT (i := 5) (v := ?_) (by simp only [List.getElem?_toArray, List.getElem?_cons_succ, List.getElem?_cons_zero]; rfl) (by kernel_rfl) (by kernel_rfl) (by kernel_rfl) (by kernel_rfl) (by kernel_rfl) (by exact fun _ _ _ h => h) (Or.inl ⟨by rfl, ?_⟩) hH ?_
  rotate_left
  · (intro wy hSw; (try dsimp only at hSw); have k0 := HC7.out wy hSw.1; have k1 := (HXC.out wy hSw.2).2; go_simp; try (with_reducible rfl))
  try simp only [Act.put, List.setIfInBounds_toArray, List.set_cons_zero, List.set_cons_succ]
  have HS1 := Lib.hid hH
  refine Late.Goes.two (i := 6) (j := 10) (by kernel_rfl) (by simp only [List.getElem?_toArray, List.getElem?_cons_succ, List.getElem?_cons_zero]; rfl) (by simp only [List.getElem?_toArray, List.getElem?_cons_succ, List.getElem?_cons_zero]; rfl) (fun K hK => ?_) (fun K hK => ?_) <;> clear hH
  · go_simp
    go_at_call 28
    refine (HG.out _ HS1.out.1).mono ?_
    rintro e w1 ⟨rfl, hb1⟩
    have HS2 := Lib.hid (And.intro (HS1.out.1.trans hb1 (fun _ _ h => h)) (HS1.out.2.but hb1 (fun h => h)))
    refine hK.out _ _ ?_ (fun hH => ?_)
    · exact fun _ => HS2.out
    clear hK K
    have hH := hH rfl
    try simp only [Act.put, List.setIfInBounds_toArray, List.set_cons_zero, List.set_cons_succ]
    refine Late.Goes.takeT (i := 7) (v := ?_) (by simp only [List.getElem?_toArray, List.getElem?_cons_succ, List.getElem?_cons_zero]; rfl) (by kernel_rfl) (by kernel_rfl) (by kernel_rfl) (by kernel_rfl) (by kernel_rfl) (by exact fun _ _ _ h => h) (Or.inl ⟨by rfl, ?_⟩) hH ?_
    rotate_left
    · (intro wy hSw; (try dsimp only at hSw); have k0 := HC7.out wy hSw.1; have k1 := (HXC.out wy hSw.2).2; go_simp; try (with_reducible rfl))
    try simp only [Act.put, List.setIfInBounds_toArray, List.set_cons_zero, List.set_cons_succ]
    refine Late.Goes.takeT (i := 8) (v := ?_) (by simp only [List.getElem?_toArray, List.getElem?_cons_succ, List.getElem?_cons_zero]; rfl) (by kernel_rfl) (by kernel_rfl) (by kernel_rfl) (by kernel_rfl) (by kernel_rfl) (by exact fun _ _ _ h => h) (Or.inl ⟨by rfl, ?_⟩) hH ?_
    rotate_left
    · (intro wy hSw; (try dsimp only at hSw); have k0 := HC7.out wy hSw.1; have k1 := (HXC.out wy hSw.2).2; go_simp; try (with_reducible rfl))
    try simp only [Act.put, List.setIfInBounds_toArray, List.set_cons_zero, List.set_cons_succ]
    refine Late.Goes.takeT (i := 9) (v := ?_) (by simp only [List.getElem?_toArray, List.getElem?_cons_succ, List.getElem?_cons_zero]; rfl) (by kernel_rfl) (by kernel_rfl) (by kernel_rfl) (by kernel_rfl) (by kernel_rfl) (by exact fun _ _ _ h => h) (Or.inl ⟨by rfl, ?_⟩) hH ?_
    rotate_left
    · (intro wy hSw; (try dsimp only at hSw); have k0 := HC7.out wy hSw.1; have k1 := (HXC.out wy hSw.2).2; go_simp; try (with_reducible rfl))
    try simp only [Act.put, List.setIfInBounds_toArray, List.set_cons_zero, List.set_cons_succ]
    refine Late.Goes.one (i := 10) (by kernel_rfl) (by simp only [List.getElem?_toArray, List.getElem?_cons_succ, List.getElem?_cons_zero]; rfl) (fun K hK => ?_)
    clear hH
    go_simp
    have HS3 := Lib.hid (show But (fun _ => False) w (w1.alloc (.cells (entB Key.zero) 39)) ∧ Blk (w1.alloc (.cells (entB Key.zero) 39)) b3 83 (itB x) ∧ Blk (w1.alloc (.cells (entB Key.zero) 39)) w1.heap.size 39 (entB Key.zero) from ⟨HS2.out.1.alloc _, HS2.out.2.but ((But.refl (fun _ => False) _).alloc _) (fun h => h), Blk.new _ _ _⟩)
    have HS4 := Lib.hid (show w.heap.size ≤ w1.heap.size from HS2.out.1.size)
    change K (_ : Act) (w1.alloc (.cells (entB Key.zero) 39))
    generalize w1.alloc (.cells (entB Key.zero) 39) = W3 at HS3 ⊢
    generalize w1.heap.size = b5 at HS3 HS4 ⊢
    refine hK.out _ _ ?_ (fun hH => ?_)
    · exact fun _ => ⟨HS3.out.1, HS3.out.2.1⟩
    clear hK K
    have hH := hH rfl
    try simp only [Act.put, List.setIfInBounds_toArray, List.set_cons_zero, List.set_cons_succ]
    refine Late.Goes.one (i := 11) (by kernel_rfl) (by simp only [List.getElem?_toArray, List.getElem?_cons_succ, List.getElem?_cons_zero]; rfl) (fun K hK => ?_)
    clear hH
    refine Key.wp_store_blk (by rfl) 39 _ _ rfl b5 0 (Key.ecells (Key.ent o)) rfl rfl (blk_there0 HS3.out.2.2 (by rfl)) (by rw [Key.ecells_length]; exact Key.entry_size) (Key.ecells_one _) ?_
    have HS5 := Lib.hid (And.intro (HS3.out.1.trans (but_setCells b5 (Key.ecells (Key.ent o)) 0 W3) (fun k hk e => by have := HS4.out; omega)) (And.intro (HS3.out.2.1.but (but_setCells b5 (Key.ecells (Key.ent o)) 0 W3) (fun e => HS3.out.2.1.ne_ HS3.out.2.2 (by decide) e)) (blk_set0 (vs := Key.ecells (Key.ent o)) HS3.out.2.2 (by rw [Key.ecells_length]; rfl))))
    generalize W3.setCells b5 0 (Key.ecells (Key.ent o)) = W5 at HS5 ⊢
    refine hK.out _ _ ?_ (fun hH => ?_)
    · exact fun _ => ⟨HS5.out.1, HS5.out.2.1⟩
    clear hK K
    have hH := hH rfl
    try simp only [Act.put, List.setIfInBounds_toArray, List.set_cons_zero, List.set_cons_succ]
    refine Late.Goes.takeT (i := 12) (v := ?_) (by simp only [List.getElem?_toArray, List.getElem?_cons_succ, List.getElem?_cons_zero]; rfl) (by kernel_rfl) (by kernel_rfl) (by kernel_rfl) (by kernel_rfl) (by kernel_rfl) (by exact fun _ _ _ h => h) (Or.inl ⟨by rfl, ?_⟩) hH ?_
    rotate_left
    · (intro wy hSw; (try dsimp only at hSw); have k0 := HC7.out wy hSw.1; have k1 := (HXC.out wy hSw.2).2; go_simp; try (with_reducible rfl))
    try simp only [Act.put, List.setIfInBounds_toArray, List.set_cons_zero, List.set_cons_succ]
    refine Late.Goes.done (by kernel_rfl) ?_ _
    have y4 : W5.cell? ⟨b5, 5, none⟩ = some (.int .u64 ((Key.ent o).exp : Int)) := HS5.out.2.2.cell 5
    have y0 := (HXC.out _ HS5.out.2.1).1
    cases o with
    | none =>
      go_wp2
      go_ret
      exact ⟨rfl, HS5.out.1⟩
    | some e =>
      have hd : ((e.exp : Int) == (x.time : Int)) = decide (e.exp = x.time) := by rw [Bool.eq_iff_iff]; simp [Int.natCast_inj]
      have y4 : W5.cell? ⟨b5, 5, none⟩ = some (.int .u64 (e.exp : Int)) := y4
      go_wp2
      go_ret
      exact ⟨by first | rfl | (simp; exact hd), HS5.out.1⟩
  · skip
    go_simp
    have HS2 := Lib.hid (show But (fun _ => False) w (W.drew.alloc (.cells (entB Key.zero) 39)) ∧ Blk (W.drew.alloc (.cells (entB Key.zero) 39)) b3 83 (itB x) ∧ Blk (W.drew.alloc (.cells (entB Key.zero) 39)) W.heap.size 39 (entB Key.zero) from ⟨HS1.out.1.alloc _, HS1.out.2.but ((But.refl (fun _ => False) _).alloc _) (fun h => h), Blk.new _ _ _⟩)
    have HS4 := Lib.hid (show w.heap.size ≤ W.heap.size from HB0.out.size)
    change K (_ : Act) (W.drew.alloc (.cells (entB Key.zero) 39))
    generalize W.drew.alloc (.cells (entB Key.zero) 39) = W2 at HS2 ⊢
    obtain ⟨b5, hb5⟩ : ∃ b, b = W.heap.size := ⟨_, rfl⟩
    rw [← hb5] at HS2 HS4 ⊢
    clear hb5
    refine hK.out _ _ ?_ (fun hH => ?_)
    · exact fun _ => ⟨HS2.out.1, HS2.out.2.1⟩
    clear hK K
    have hH := hH rfl
    try simp only [Act.put, List.setIfInBounds_toArray, List.set_cons_zero, List.set_cons_succ]
    refine Late.Goes.one (i := 6) (by kernel_rfl) (by simp only [List.getElem?_toArray, List.getElem?_cons_succ, List.getElem?_cons_zero]; rfl) (fun K hK => ?_)
    clear hH
    go_simp
    go_at_call 28
    refine (HG.out _ HS2.out.1).mono ?_
    rintro e w1 ⟨rfl, hb1⟩
    have HS3 := Lib.hid (And.intro (HS2.out.1.trans hb1 (fun _ _ h => h)) (And.intro (HS2.out.2.1.but hb1 (fun h => h)) (HS2.out.2.2.but hb1 (fun h => h))))
    refine hK.out _ _ ?_ (fun hH => ?_)
    · exact fun _ => ⟨HS3.out.1, HS3.out.2.1⟩
    clear hK K
    have hH := hH rfl
    try simp only [Act.put, List.setIfInBounds_toArray, List.set_cons_zero, List.set_cons_succ]
    refine Late.Goes.takeT (i := 7) (v := ?_) (by simp only [List.getElem?_toArray, List.getElem?_cons_succ, List.getElem?_cons_zero]; rfl) (by kernel_rfl) (by kernel_rfl) (by kernel_rfl) (by kernel_rfl) (by kernel_rfl) (by exact fun _ _ _ h => h) (Or.inl ⟨by rfl, ?_⟩) hH ?_
    rotate_left
    · (intro wy hSw; (try dsimp only at hSw); have k0 := HC7.out wy hSw.1; have k1 := (HXC.out wy hSw.2).2; go_simp; try (with_reducible rfl))
    try simp only [Act.put, List.setIfInBounds_toArray, List.set_cons_zero, List.set_cons_succ]
    refine Late.Goes.takeT (i := 8) (v := ?_) (by simp only [List.getElem?_toArray, List.getElem?_cons_succ, List.getElem?_cons_zero]; rfl) (by kernel_rfl) (by kernel_rfl) (by kernel_rfl) (by kernel_rfl) (by kernel_rfl) (by exact fun _ _ _ h => h) (Or.inl ⟨by rfl, ?_⟩) hH ?_
    rotate_left
    · (intro wy hSw; (try dsimp only at hSw); have k0 := HC7.out wy hSw.1; have k1 := (HXC.out wy hSw.2).2; go_simp; try (with_reducible rfl))
    try simp only [Act.put, List.setIfInBounds_toArray, List.set_cons_zero, List.set_cons_succ]
    refine Late.Goes.takeT (i := 9) (v := ?_) (by simp only [List.getElem?_toArray, List.getElem?_cons_succ, List.getElem?_cons_zero]; rfl) (by kernel_rfl) (by kernel_rfl) (by kernel_rfl) (by kernel_rfl) (by kernel_rfl) (by exact fun _ _ _ h => h) (Or.inl ⟨by rfl, ?_⟩) hH ?_
    rotate_left
    · (intro wy hSw; (try dsimp only at hSw); have k0 := HC7.out wy hSw.1; have k1 := (HXC.out wy hSw.2).2; go_simp; try (with_reducible rfl))
    try simp only [Act.put, List.setIfInBounds_toArray, List.set_cons_zero, List.set_cons_succ]
    refine Late.Goes.one (i := 11) (by kernel_rfl) (by simp only [List.getElem?_toArray, List.getElem?_cons_succ, List.getElem?_cons_zero]; rfl) (fun K hK => ?_)
    clear hH
    refine Key.wp_store_blk (by rfl) 39 _ _ rfl b5 0 (Key.ecells (Key.ent o)) rfl rfl (blk_there0 HS3.out.2.2 (by rfl)) (by rw [Key.ecells_length]; exact Key.entry_size) (Key.ecells_one _) ?_
    have HS5 := Lib.hid (And.intro (HS3.out.1.trans (but_setCells b5 (Key.ecells (Key.ent o)) 0 w1) (fun k hk e => by have := HS4.out; omega)) (And.intro (HS3.out.2.1.but (but_setCells b5 (Key.ecells (Key.ent o)) 0 w1) (fun e => HS3.out.2.1.ne_ HS3.out.2.2 (by decide) e)) (blk_set0 (vs := Key.ecells (Key.ent o)) HS3.out.2.2 (by rw [Key.ecells_length]; rfl))))
    generalize w1.setCells b5 0 (Key.ecells (Key.ent o)) = W5 at HS5 ⊢
    refine hK.out _ _ ?_ (fun hH => ?_)
    · exact fun _ => ⟨HS5.out.1, HS5.out.2.1⟩
    clear hK K
    have hH := hH rfl
    try simp only [Act.put, List.setIfInBounds_toArray, List.set_cons_zero, List.set_cons_succ]
    refine Late.Goes.takeT (i := 12) (v := ?_) (by simp only [List.getElem?_toArray, List.getElem?_cons_succ, List.getElem?_cons_zero]; rfl) (by kernel_rfl) (by kernel_rfl) (by kernel_rfl) (by kernel_rfl) (by kernel_rfl) (by exact fun _ _ _ h => h) (Or.inl ⟨by rfl, ?_⟩) hH ?_
    rotate_left
    · (intro wy hSw; (try dsimp only at hSw); have k0 := HC7.out wy hSw.1; have k1 := (HXC.out wy hSw.2).2; go_simp; try (with_reducible rfl))
    try simp only [Act.put, List.setIfInBounds_toArray, List.set_cons_zero, List.set_cons_succ]
    refine Late.Goes.done (by kernel_rfl) ?_ _
    have y4 : W5.cell? ⟨b5, 5, none⟩ = some (.int .u64 ((Key.ent o).exp : Int)) := HS5.out.2.2.cell 5
    have y0 := (HXC.out _ HS5.out.2.1).1
    cases o with
    | none =>
      go_wp2
      go_ret
      exact ⟨rfl, HS5.out.1⟩
    | some e =>
      have hd : ((e.exp : Int) == (x.time : Int)) = decide (e.exp = x.time) := by rw [Bool.eq_iff_iff]; simp [Int.natCast_inj]
      have y4 : W5.cell? ⟨b5, 5, none⟩ = some (.int .u64 (e.exp : Int)) := y4
      go_wp2
      go_ret
      exact ⟨by first | rfl | (simp; exact hd), HS5.out.1⟩
end
end Go.Proofs.Ytgjofinbdigmcaa.Buk
