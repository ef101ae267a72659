/- Contracts of the library's Push and Pop over the program's heap, and of the program's own calls. -/
import Derived.Test.YtdkknjgjogekiaaExpUp
namespace Go.Proofs.Ytdkknjgjogekiaa.Exp
open Go.Proofs.Ytdkknjgjogekiaa.Mem
open Go.ChangeShapes Go.WideShapes Go.ChangeAt Go.RowKit
set_option linter.unusedVariables false
set_option linter.unusedSimpArgs false
/- Results of a call: a struct that lies in a block, and a slot. -/
theorem results_row_tmp {P : Program} {fn : Func} {p q : Tmp} {ty : TypeId} (h : fn.results = #[.cell p ty, .tmp q]) (tmps : Array Value) (w : World) (g : Nat) (t : TypeId) (cs : Array Value) (fr : Nat × Nat) (d : TypeDesc)
    (hp : tmps.getD p undef = .pointer (some ⟨g, 0, none⟩)) (hg : w.heap[g]? = some (.cells cs t fr))
    (hu : P.underlying ty = some d) (hd : (match d with | .struct _ | .array _ _ => true | _ => false) = true) (hi : (P.info? ty).map (·.size) = some cs.size) :
    (results fn tmps).run P w = .ok (.tuple #[.agg cs, tmps.getD q undef]) w := by
  have hp' : tmps[p]?.getD undef = .pointer (some ⟨g, 0, none⟩) := by simpa using hp
  simp [results, h, hp', asAddr, run_loadVar_row w g t ty cs fr d hg hu hd hi]
section
variable {w : World} {B p : Nat} {v : Value} {l : List It}
set_option maxRecDepth 100000 in
set_option maxHeartbeats 1000000 in
theorem lpush_any (h : HAt w B p v l) (hh : Hp l) (x : It) (hl : l.length + 1 ≤ 1000) :
    Calls Try.prog 15 #[.iface 49 (.pointer (some ⟨p, 0, none⟩)), .iface 29 (.agg #[.int .u64 (x.time : Int), .string x.key])] w fun e w' => e = .returned (.tuple #[]) ∧ ∃ v' l', HAt w' B p v' l' ∧ Hp l' ∧ l'.Perm (x :: l) ∧ But (Foot p v) w w' ∧ Next w v v' := by
  have mP := fun w x => m_push w x
  simp at mP
  have HC := Lib.hid (ppush_any h x hl)
  have HH := Lib.hid hh
  clear h hh
  go_enter Try.func15, Try.ntmps15
  go_wp2_with fail
  refine HC.out.mono ?_
  rintro e w1 ⟨rfl, v1, hA1, hB1, hn1⟩
  have mL := hA1.m1
  simp at mL
  have HA1 := Lib.hid hA1
  have HB1 := Lib.hid hB1
  have HN1 := Lib.hid hn1
  have HL := Lib.hid hA1.len_
  have hln : (l ++ [x]).length = l.length + 1 := by simp
  rw [hln] at HL
  have HU := Lib.hid (hup_any hA1 (j := l.length) (by omega))
  obtain ⟨n, hn⟩ : ∃ n, n = l.length := ⟨_, rfl⟩
  have HEND := Lib.hid (up_all (f := l.length + 1) (UpAt.last HH.out x) (by omega) (by omega))
  have hz : ((l.length + 1 : Nat) : Int) = (n : Int) + 1 := by omega
  rw [hz] at HL
  rw [← hn] at HU hl HEND
  clear hA1 hB1 hn1 mP HC hln hn hz
  go_wp2_with fail
  refine HL.out.mono ?_
  rintro e w2 ⟨rfl, rfl⟩
  clear HL mL
  go_wp2_with fail
  refine HU.out.mono ?_
  rintro e w2 ⟨rfl, hA2, hB2⟩
  have HA2 := Lib.hid hA2
  have HB2 := Lib.hid (foot_trans HB1.out HN1.out hB2)
  clear hA2 hB2 HU
  go_wp2_with fail
  go_end0
  refine ⟨rfl, v1, _, HA2.out, HEND.out.1, HEND.out.2.trans ?_, HB2.out, HN1.out⟩
  exact List.perm_append_singleton x l
theorem swap_last {l : List It} {n : Nat} (hn : l.length = n + 1) : swap l 0 n = (l.take n).set 0 (look l n) ++ [look l 0] := by
  apply List.ext_getElem?
  intro i
  have hs : (swap l 0 n).length = n + 1 := by rw [swap_length, hn]
  have hf : ((l.take n).set 0 (look l n)).length = n := by simp; omega
  by_cases hi : i < n + 1
  · have e1 : (swap l 0 n)[i]? = some (look (swap l 0 n) i) := look_some (by omega)
    have e2 : ((l.take n).set 0 (look l n) ++ [look l 0])[i]? = some (look ((l.take n).set 0 (look l n) ++ [look l 0]) i) := look_some (by rw [List.length_append, hf]; simpa using hi)
    rw [e1, e2, look_swap (by omega) (by omega)]
    by_cases h1 : i = n
    · rw [if_pos h1]
      have hq : ∀ (A : List It) (y : It), A.length = n → look (A ++ [y]) n = y := fun A y hA => by subst hA; simp [look, List.getD]
      rw [h1, hq _ _ hf]
    · rw [if_neg h1, look_app (by rw [hf]; omega), look_set (by rw [List.length_take, hn]; omega)]
      by_cases h0 : i = 0
      · rw [if_pos h0, if_pos h0]
      · rw [if_neg h0, if_neg h0]
        simp [look, List.getD, List.getElem?_take, show i < n by omega]
  · rw [List.getElem?_eq_none (by omega), List.getElem?_eq_none (by rw [List.length_append, hf]; simp; omega)]
set_option maxRecDepth 100000 in
set_option maxHeartbeats 1000000 in
theorem lpop_any (h : HAt w B p v l) (hh : Hp l) (hl : 0 < l.length) :
    Calls Try.prog 17 #[.iface 49 (.pointer (some ⟨p, 0, none⟩))] w fun e w' => e = .returned (.iface 29 (.agg #[.int .u64 ((look l 0).time : Int), .string (look l 0).key])) ∧ ∃ v' l', HAt w' B p v' l' ∧ Hp l' ∧ l.Perm (look l 0 :: l') ∧ But (Foot p v) w w' ∧ v'.ownBlock = v.ownBlock := by
  have mP := fun w x => m_pop w x
  simp at mP
  obtain ⟨n, hn⟩ : ∃ n, l.length = n + 1 := ⟨l.length - 1, by omega⟩
  have mL := h.m1
  have mS := h.m3
  simp at mL mS
  have HL := Lib.hid h.len_
  have HSW := Lib.hid (h.swap_ (i := 0) (j := n) (by omega) (by omega))
  have hz : ((l.length : Nat) : Int) = (n : Int) + 1 := by omega
  rw [hz] at HL
  rw [swap_last hn] at HSW
  obtain ⟨F, hF⟩ : ∃ F, F = (l.take n).set 0 (look l n) := ⟨_, rfl⟩
  have hFl : F.length = n := by rw [hF]; simp; omega
  have hpm := swap_perm (l := l) (i := 0) (j := n) (by omega) (by omega)
  rw [swap_last hn, ← hF] at hpm
  rw [← hF] at HSW
  have hd : Hp (down (n + 1) F 0) ∧ (down (n + 1) F 0).Perm F := by
    refine down_all ?_ (by omega)
    rw [hF]
    exact DownAt.first (hp_take hh n) _
  have HD := Lib.hid hd
  have HPM := Lib.hid hpm
  obtain ⟨x, hx⟩ : ∃ x, x = look l 0 := ⟨_, rfl⟩
  rw [← hx] at HSW HPM ⊢
  have HFL := Lib.hid hFl
  have hf := h.few
  rw [hn] at hf
  clear h hh hl hz hF hFl hpm hx hd
  go_enter Try.func17, Try.ntmps17
  go_wp2_with fail
  refine HL.out.mono ?_
  rintro e w1 ⟨rfl, rfl⟩
  clear HL mL
  go_wp2_with fail
  refine HSW.out.mono ?_
  rintro e w2 ⟨rfl, hA, hB⟩
  have HDN := Lib.hid (hdown_any hA)
  rw [HFL.out] at HDN
  have HB := Lib.hid hB
  clear hA hB HSW mS
  go_wp2_with fail
  refine HDN.out.mono ?_
  rintro e w3 ⟨⟨b, rfl⟩, hA, hB⟩
  have HPP := Lib.hid (ppop_any hA)
  have HB3 := Lib.hid (HB.out.trans' hB)
  clear hA hB HDN HB
  go_wp2_with fail
  refine HPP.out.mono ?_
  rintro e w4 ⟨rfl, v4, hA, hB, ho⟩
  have HEND := Lib.hid (And.intro hA (And.intro (HB3.out.trans' hB) ho))
  clear hA hB ho HPP
  go_wp2_with fail
  go_ret
  refine ⟨rfl, v4, _, HEND.out.1, HD.out.1, ?_, HEND.out.2.1, HEND.out.2.2⟩
  refine HPM.out.symm.trans ((List.perm_append_singleton x F).trans ?_)
  exact List.Perm.cons x HD.out.2.symm
theorem new_any (w : World) : Calls Try.prog 6 #[] w fun e w' => e = .returned (.pointer (some ⟨w.heap.size, 0, none⟩)) ∧ HAt w' w.heap.size w.heap.size (.slice none 0 0) [] ∧ But (fun _ => False) w w' := by
  have HB := Lib.hid (Blk.new w 47 #[.slice none 0 0])
  have HO := Lib.hid (show But (fun _ => False) w (w.alloc (.cells #[.slice none 0 0] 47)) from (But.refl _ w).alloc _)
  go_enter Try.func6, Try.ntmps6
  go_wp2_with fail
  go_ret
  exact ⟨rfl, ⟨HB.out, ⟨rfl, .inl ⟨rfl, rfl⟩⟩, Nat.le_refl _, by simp⟩, HO.out⟩
set_option maxRecDepth 100000 in
set_option maxHeartbeats 1000000 in
theorem len_any (h : HAt w B p v l) : Calls Try.prog 13 #[.pointer (some ⟨p, 0, none⟩)] w fun e w' => e = .returned (.int .i64 (l.length : Int)) ∧ w' = w := by
  obtain ⟨a, c, hv⟩ := h.shape
  have k0 : w.cell? ⟨p, 0, none⟩ = some v := h.blk.cell 0
  rw [hv] at k0
  clear h hv
  generalize l.length = n at *
  go_enter Try.func13, Try.ntmps13
  go_wp2_with fail
  go_ret
  exact ⟨rfl, rfl⟩
theorem boxed (w : World) (x : It) : (w.alloc (.cells #[.int .u64 (x.time : Int), .string x.key] 29)).cell? ⟨w.heap.size, 0, none⟩ = some (.int .u64 (x.time : Int)) ∧ (w.alloc (.cells #[.int .u64 (x.time : Int), .string x.key] 29)).cell? ⟨w.heap.size, 1, none⟩ = some (.string x.key) :=
  ⟨(Blk.new w _ _).cell 0, (Blk.new w _ _).cell 1⟩
theorem mk_item (x : Value) (w : World) : (Instr.makeInterface 29 x).run Try.prog w = .ok (.iface 29 x) w := run_makeInterface w 29 x (by kernel_rfl)
theorem mk_places (x : Value) (w : World) : (Instr.makeInterface 49 x).run Try.prog w = .ok (.iface 49 x) w := run_makeInterface w 49 x (by kernel_rfl)
set_option maxRecDepth 100000 in
set_option maxHeartbeats 1000000 in
theorem push_any (h : HAt w B p v l) (hh : Hp l) (x : It) (hl : l.length + 1 ≤ 1000) :
    Calls Try.prog 8 #[.pointer (some ⟨p, 0, none⟩), .agg #[.int .u64 (x.time : Int), .string x.key]] w fun e w' => e = .returned (.tuple #[]) ∧ ∃ v' l', HAt w' B p v' l' ∧ Hp l' ∧ l'.Perm (x :: l) ∧ But (Foot p v) w w' ∧ Next w v v' := by
  have mi := mk_item
  have mp := mk_places
  have hb1 : But (fun _ => False) w (w.alloc (.cells #[.int .u64 (x.time : Int), .string x.key] 29)).drew := ((But.refl _ w).alloc _).drew
  have HX := Lib.hid (boxed w x)
  have HC := Lib.hid (lpush_any (h.new hb1) hh x hl)
  have HB1 := Lib.hid hb1
  clear h hh hb1
  go_enter Try.func8, Try.ntmps8
  go_wp2_with fail
  refine Late.region_goes (fun V => V = (w.alloc (.cells #[.int .u64 (x.time : Int), .string x.key] 29)).drew) (fun i => i == 6) (by kernel_rfl) ?_ (fun hH => ?_)
  · rfl
  refine Late.Goes.takeT (i := 0) (v := ?_) (by simp only [List.getElem?_toArray, List.getElem?_cons_succ, List.getElem?_cons_zero]; rfl) (by kernel_rfl) (by kernel_rfl) (by kernel_rfl) (by kernel_rfl) (by kernel_rfl) (by exact fun _ _ _ h => h) (Or.inl ⟨by rfl, ?_⟩) hH ?_
  rotate_left
  · (intro wy hSw; (try dsimp only at hSw); subst hSw; have x0 : (w.alloc (.cells #[.int .u64 (x.time : Int), .string x.key] 29)).drew.cell? ⟨w.heap.size, 0, none⟩ = some (.int .u64 (x.time : Int)) := HX.out.1; have x1 : (w.alloc (.cells #[.int .u64 (x.time : Int), .string x.key] 29)).drew.cell? ⟨w.heap.size, 1, none⟩ = some (.string x.key) := HX.out.2; go_simp; try (with_reducible rfl))
  try simp only [Act.put, List.setIfInBounds_toArray, List.set_cons_zero, List.set_cons_succ]
  refine Late.Goes.takeT (i := 1) (v := ?_) (by simp only [List.getElem?_toArray, List.getElem?_cons_succ, List.getElem?_cons_zero]; rfl) (by kernel_rfl) (by kernel_rfl) (by kernel_rfl) (by kernel_rfl) (by kernel_rfl) (by exact fun _ _ _ h => h) (Or.inl ⟨by rfl, ?_⟩) hH ?_
  rotate_left
  · (intro wy hSw; (try dsimp only at hSw); subst hSw; have x0 : (w.alloc (.cells #[.int .u64 (x.time : Int), .string x.key] 29)).drew.cell? ⟨w.heap.size, 0, none⟩ = some (.int .u64 (x.time : Int)) := HX.out.1; have x1 : (w.alloc (.cells #[.int .u64 (x.time : Int), .string x.key] 29)).drew.cell? ⟨w.heap.size, 1, none⟩ = some (.string x.key) := HX.out.2; go_simp; try (with_reducible rfl))
  try simp only [Act.put, List.setIfInBounds_toArray, List.set_cons_zero, List.set_cons_succ]
  refine Late.Goes.takeT (i := 2) (v := ?_) (by simp only [List.getElem?_toArray, List.getElem?_cons_succ, List.getElem?_cons_zero]; rfl) (by kernel_rfl) (by kernel_rfl) (by kernel_rfl) (by kernel_rfl) (by kernel_rfl) (by exact fun _ _ _ h => h) (Or.inl ⟨by rfl, ?_⟩) hH ?_
  rotate_left
  · (intro wy hSw; (try dsimp only at hSw); subst hSw; have x0 : (w.alloc (.cells #[.int .u64 (x.time : Int), .string x.key] 29)).drew.cell? ⟨w.heap.size, 0, none⟩ = some (.int .u64 (x.time : Int)) := HX.out.1; have x1 : (w.alloc (.cells #[.int .u64 (x.time : Int), .string x.key] 29)).drew.cell? ⟨w.heap.size, 1, none⟩ = some (.string x.key) := HX.out.2; go_simp; try (with_reducible rfl))
  try simp only [Act.put, List.setIfInBounds_toArray, List.set_cons_zero, List.set_cons_succ]
  refine Late.Goes.takeT (i := 3) (v := ?_) (by simp only [List.getElem?_toArray, List.getElem?_cons_succ, List.getElem?_cons_zero]; rfl) (by kernel_rfl) (by kernel_rfl) (by kernel_rfl) (by kernel_rfl) (by kernel_rfl) (by exact fun _ _ _ h => h) (Or.inl ⟨by rfl, ?_⟩) hH ?_
  rotate_left
  · (intro wy hSw; (try dsimp only at hSw); subst hSw; have x0 : (w.alloc (.cells #[.int .u64 (x.time : Int), .string x.key] 29)).drew.cell? ⟨w.heap.size, 0, none⟩ = some (.int .u64 (x.time : Int)) := HX.out.1; have x1 : (w.alloc (.cells #[.int .u64 (x.time : Int), .string x.key] 29)).drew.cell? ⟨w.heap.size, 1, none⟩ = some (.string x.key) := HX.out.2; go_simp; try (with_reducible rfl))
  try simp only [Act.put, List.setIfInBounds_toArray, List.set_cons_zero, List.set_cons_succ]
  refine Late.Goes.takeT (i := 4) (v := ?_) (by simp only [List.getElem?_toArray, List.getElem?_cons_succ, List.getElem?_cons_zero]; rfl) (by kernel_rfl) (by kernel_rfl) (by kernel_rfl) (by kernel_rfl) (by kernel_rfl) (by exact fun _ _ _ h => h) (Or.inl ⟨by rfl, ?_⟩) hH ?_
  rotate_left
  · (intro wy hSw; (try dsimp only at hSw); subst hSw; have x0 : (w.alloc (.cells #[.int .u64 (x.time : Int), .string x.key] 29)).drew.cell? ⟨w.heap.size, 0, none⟩ = some (.int .u64 (x.time : Int)) := HX.out.1; have x1 : (w.alloc (.cells #[.int .u64 (x.time : Int), .string x.key] 29)).drew.cell? ⟨w.heap.size, 1, none⟩ = some (.string x.key) := HX.out.2; go_simp; try (with_reducible rfl))
  try simp only [Act.put, List.setIfInBounds_toArray, List.set_cons_zero, List.set_cons_succ]
  refine Late.Goes.takeT (i := 5) (v := ?_) (by simp only [List.getElem?_toArray, List.getElem?_cons_succ, List.getElem?_cons_zero]; rfl) (by kernel_rfl) (by kernel_rfl) (by kernel_rfl) (by kernel_rfl) (by kernel_rfl) (by exact fun _ _ _ h => h) (Or.inl ⟨by rfl, ?_⟩) hH ?_
  rotate_left
  · (intro wy hSw; (try dsimp only at hSw); subst hSw; have x0 : (w.alloc (.cells #[.int .u64 (x.time : Int), .string x.key] 29)).drew.cell? ⟨w.heap.size, 0, none⟩ = some (.int .u64 (x.time : Int)) := HX.out.1; have x1 : (w.alloc (.cells #[.int .u64 (x.time : Int), .string x.key] 29)).drew.cell? ⟨w.heap.size, 1, none⟩ = some (.string x.key) := HX.out.2; go_simp; try (with_reducible rfl))
  try simp only [Act.put, List.setIfInBounds_toArray, List.set_cons_zero, List.set_cons_succ]
  refine Late.Goes.one (i := 6) (by kernel_rfl) (by simp only [List.getElem?_toArray, List.getElem?_cons_succ, List.getElem?_cons_zero]; rfl) (fun K hK => ?_)
  clear hH
  go_simp
  go_at_call 15
  refine HC.out.mono ?_
  rintro e w2 ⟨rfl, v2, l2, hA, hH, hP, hB, hN⟩
  have HEND := Lib.hid (show ∃ v' l', HAt w2 B p v' l' ∧ Hp l' ∧ l'.Perm (x :: l) ∧ But (Foot p v) w w2 ∧ Next w v v' from by
    refine ⟨v2, l2, hA, hH, hP, (HB1.out.mono (fun _ _ h => h.elim)).trans' hB, ?_⟩
    rcases hN with hN | hN
    · exact .inl hN
    · exact .inr (fun k hk => Nat.le_trans HB1.out.size (hN k hk)))
  clear hA hH hP hB hN HC HB1 HX
  refine hK.out _ _ ?_ (fun _ => ?_)
  · exact fun h => by cases h
  clear hK K
  try simp only [Act.put, List.setIfInBounds_toArray, List.set_cons_zero, List.set_cons_succ]
  refine Late.Goes.done (by kernel_rfl) ?_ _
  go_wp2
  go_end0
  exact ⟨rfl, HEND.out⟩
set_option maxRecDepth 100000 in
set_option maxHeartbeats 1000000 in
theorem pop_yes (h : HAt w B p v l) (hh : Hp l) (hl : 0 < l.length) :
    Calls Try.prog 10 #[.pointer (some ⟨p, 0, none⟩)] w fun e w' => e = .returned (.tuple #[.agg #[.int .u64 ((look l 0).time : Int), .string (look l 0).key], .bool true]) ∧ ∃ v' l', HAt w' B p v' l' ∧ Hp l' ∧ l.Perm (look l 0 :: l') ∧ But (Foot p v) w w' ∧ v'.ownBlock = v.ownBlock := by
  have mp := mk_places
  have ta := assert_item
  obtain ⟨a, c, hv⟩ := h.shape
  have hb1 : But (fun _ => False) w (w.alloc (.cells #[.int .u64 0, .string ⟨#[]⟩] 29)) := (But.refl _ w).alloc _
  have hX := Blk.new w 29 #[.int .u64 0, .string ⟨#[]⟩]
  have hA := h.new hb1
  have hC := lpop_any hA hh hl
  obtain ⟨x, hx⟩ : ∃ x, x = look l 0 := ⟨_, rfl⟩
  rw [← hx] at hC ⊢
  have HC := Lib.hid hC
  have k0 : (w.alloc (.cells #[.int .u64 0, .string ⟨#[]⟩] 29)).cell? ⟨p, 0, none⟩ = some v := hA.blk.cell 0
  rw [hv] at k0
  have HLT := Lib.hid h.lt
  have HX := Lib.hid hX
  have HB1 := Lib.hid hb1
  have hln : ((l.length : Int) == 0) = false := beq_eq_false_iff_ne.2 (by omega)
  have hs1 : w.heap.size < (w.alloc (.cells #[.int .u64 0, .string ⟨#[]⟩] 29)).heap.size := hX.lt
  have HS1 := Lib.hid hs1
  obtain ⟨n, hn⟩ : ∃ n, n = l.length := ⟨_, rfl⟩
  rw [← hn] at k0 hln
  have HV := Lib.hid hv
  clear h hh hl hb1 hX hA hv hn hs1 hC hx
  go_enter Try.func10, Try.ntmps10
  go_wp2_with fail
  refine HC.out.mono ?_
  rintro e w2 ⟨rfl, v2, l2, hA, hH, hP, hB, hN⟩
  have hnf : ¬ Foot p v w.heap.size := by
    have hlt := HLT.out
    rintro (e | e)
    · omega
    · have := (hlt.2 _ e.symm).2.1; omega
  have hX2 := HX.out.but hB hnf
  have hX2' : Blk w2 w.heap.size 29 ([] ++ icells nil ++ []).toArray := hX2
  have HT := Lib.hid (show w2.there w.heap.size 0 2 from fun j hj => ⟨by
    rw [hX2.cell]
    rcases j with _ | _ | j
    · rfl
    · rfl
    · omega, hX2.frozen _⟩)
  have hX3 : Blk (w2.setCells w.heap.size 0 (icells x)) w.heap.size 29 ([] ++ icells x ++ []).toArray := blk_setCells hX2' rfl
  have hX4 : Blk (w2.setCells w.heap.size 0 (icells x)) w.heap.size 29 #[.int .u64 (x.time : Int), .string x.key] := hX3
  have HX4 := Lib.hid hX4
  have hb3 : But (fun k => k = w.heap.size) w2 (w2.setCells w.heap.size 0 (icells x)) := but_setCells _ _ _ _
  have hA3 := hA.but hb3 (fun e => by have := HLT.out.1; omega) (fun k hk e => by
    rw [hN] at hk
    have := (HLT.out.2 k hk).2.1
    omega)
  have HEND := Lib.hid (show ∃ v' l', HAt (w2.setCells w.heap.size 0 (icells x)) B p v' l' ∧ Hp l' ∧ l.Perm (x :: l') ∧ But (Foot p v) w (w2.setCells w.heap.size 0 (icells x)) ∧ v'.ownBlock = v.ownBlock from
    ⟨v2, l2, hA3, hH, hP, ((HB1.out.mono (fun _ _ h => h.elim)).trans' hB).trans hb3 (fun i hi e => by omega), hN⟩)
  clear hA hH hP hB hN hX2 hX2' hX3 hX4 hb3 hA3 HC HX HB1 k0 hnf
  go_wp2_with (refine wpList_store_mid rfl 29 _ _ rfl w.heap.size 0 (icells x).toArray rfl rfl (by simpa [icells_length] using HT.out) (by simp only [List.size_toArray, icells_length]; exact item_size) (all_oneCell_toArray (icells_one x)) ?_
               change wpList _ _ _ _ _ (w2.setCells w.heap.size 0 (icells x)))
  refine bodyPost_ret (results_row_tmp rfl _ _ w.heap.size 29 #[.int .u64 (x.time : Int), .string x.key] (0, 0) _ rfl HX4.out Try.underlying29 rfl item_size) rfl ?_
  exact ⟨rfl, HEND.out⟩
set_option maxRecDepth 100000 in
set_option maxHeartbeats 1000000 in
theorem pop_no (h : HAt w B p v []) :
    Calls Try.prog 10 #[.pointer (some ⟨p, 0, none⟩)] w fun e w' => e = .returned (.tuple #[.agg #[.int .u64 0, .string ⟨#[]⟩], .bool false]) ∧ But (fun _ => False) w w' := by
  obtain ⟨a, c, hv⟩ := h.shape
  have hb1 : But (fun _ => False) w (w.alloc (.cells #[.int .u64 0, .string ⟨#[]⟩] 29)) := (But.refl _ w).alloc _
  have hX := Blk.new w 29 #[.int .u64 0, .string ⟨#[]⟩]
  have k0 : (w.alloc (.cells #[.int .u64 0, .string ⟨#[]⟩] 29)).cell? ⟨p, 0, none⟩ = some v := (h.new hb1).blk.cell 0
  rw [hv] at k0
  have k0' : (w.alloc (.cells #[.int .u64 0, .string ⟨#[]⟩] 29)).cell? ⟨p, 0, none⟩ = some (.slice a 0 c) := k0
  have HX := Lib.hid hX
  have HB1 := Lib.hid hb1
  clear h hb1 hX hv k0
  go_enter Try.func10, Try.ntmps10
  go_wp2_with fail
  refine bodyPost_ret (results_row_tmp rfl _ _ w.heap.size 29 #[.int .u64 0, .string ⟨#[]⟩] (0, 0) _ rfl HX.out Try.underlying29 rfl item_size) rfl ?_
  exact ⟨rfl, HB1.out⟩
end
end Go.Proofs.Ytdkknjgjogekiaa.Exp
