/- What Put answers. -/
import Derived.Test.YtbdbbnpkekcefaaCmdRead
import Derived.Test.YtbdbbnpkekcefaaGCmdLim
import Derived.Test.YtbdbbnpkekcefaaGCmdSame
import Derived.Test.YtbdbbnpkekcefaaLate
namespace Go.Proofs.Ytbdbbnpkekcefaa.Cmd
open Go.Proofs.Ytbdbbnpkekcefaa.Mem Go.Proofs.Ytbdbbnpkekcefaa.Pack
open Go.ChangeShapes Go.WideShapes Go.ChangeAt Go.RowKit
set_option linter.unusedVariables false
set_option linter.unusedSimpArgs false

def PutSays (q : Rq) (w : World) (e : Ending) (w' : World) : Prop :=
  Below w.heap.size w w' ∧ ((mayPut q ∧ ∃ v, e = .returned (.tuple #[v, .nilIface]) ∧ w'.ownsRow w.heap.size 5 1 v (bytesOf q).length (cellsOf (bytesOf q))) ∨
    (¬ mayPut q ∧ e = .returned (.tuple #[.slice none 0 0, .iface 57 (.int .i64 1)])))
theorem putOne_lim {tag : Int} {o : Op} (h : opLim o = true) : (putOne tag o).length ≤ 1085 := by
  unfold opLim at h
  simp only [Bool.and_eq_true, decide_eq_true_eq] at h
  have := putOne_le tag o
  omega
theorem flat_lim {tag : Int} : ∀ {l : List Op}, l.all opLim = true → (l.flatMap (putOne tag)).length ≤ 1085 * l.length
  | [], _ => by simp
  | o :: l, h => by
    rw [List.all_cons, Bool.and_eq_true] at h
    rw [List.flatMap_cons, List.length_append, List.length_cons]
    have h1 := putOne_lim (tag := tag) h.1
    have h2 := flat_lim (tag := tag) h.2
    omega
theorem bytesOf_le {q : Rq} (h : lim q = true) : (bytesOf q).length ≤ 20000 := by
  have ho := lim_ops h
  unfold lim opsLim at h
  simp only [Bool.and_eq_true, decide_eq_true_eq] at h
  have hall := h.2.2.2.2.1.2.2
  have haf := h.2.2.2.2.2.1
  have hfl := flat_lim (tag := q.tag) hall
  unfold bytesOf
  rw [List.length_append, put_length]
  have hk : ∀ t, (putTok t).length = 17 := fun t => by simp [putTok, put_length]
  rcases classes (t := q.tag) with c | c | c | c | c | c | c | c | c | c
  · rw [more_c1 c]; simp [putQuo, put_length]
  · rw [more_c2 c]; simp [put_length]
  · rw [more_c4 c]; simp [put_length]
  · rw [more_c6 (by omega)]
    unfold putOps
    rw [List.length_append, hk, List.length_append, if_pos c, put_length]; omega
  · rw [more_c6 (by omega)]
    unfold putOps
    rw [List.length_append, hk, List.length_append, if_neg (by omega), List.length_nil]; omega
  · rw [more_c10 c]
    simp only [List.length_append, hk, text_length, flag, put_length]; omega
  · rw [more_c11 c, hk]; omega
  · rw [more_c12 c, List.length_append, hk, put_length]; omega
  · rw [more_c13 c, List.length_append, hk, put_length]; omega
  · omega
theorem readRq_few (P : Pos) (hB : Bytes P.zs) : (readRq P).ops.length ≤ 255 := by
  show (rdBody _ _).ops.length ≤ 255
  rcases classes (t := ((P.num 1 : Nat) : Int)) with c | c | c | c | c | c | c | c | c | c
  · rw [rdBody_c1 c]; simp
  · rw [rdBody_c2 c]; simp
  · rw [rdBody_c4 c]; simp
  · rw [rdBody_c9 c]
    simp only [ops9_length]
    have := num1_lt (endTok_bytes (skip_bytes hB 1))
    omega
  · rw [rdBody_c6 c]; simp
  · rw [rdBody_c10 c]; simp
  · rw [rdBody_c11 c]; simp
  · rw [rdBody_c12 c]; simp
  · rw [rdBody_c13 c]; simp
  · rw [rdBody_c0 c]; simp
theorem own_lower {w : World} {base base' size n : Nat} {e : TypeId} {v : Value} {xs : List Value} (h : w.ownsRow base e size v n xs) (hl : base' ≤ base) : w.ownsRow base' e size v n xs := by
  refine ⟨h.1, ?_⟩
  rcases h.2 with h2 | ⟨g, cap, cur, hv, hg, r⟩
  · exact .inl h2
  · exact .inr ⟨g, cap, cur, hv, Nat.le_trans hl hg, r⟩
theorem OpsAt.nw {w w' : World} {sv : Value} {l : List Op} (h : OpsAt w sv l) (hb : But (fun _ => False) w w') : OpsAt w' sv l := h.below hb.new
set_option maxRecDepth 100000 in
set_option maxHeartbeats 4000000 in
theorem cPut_any (q : Rq) (hi : RqIs q) (sv : Value) (w : World) (hops : OpsAt w sv q.ops) : Calls Try.prog 13 #[rv q sv] w fun e w' => PutSays q w e w' := by
  have HLIM := Lib.hid (fun w ho => lim_any q hi sv w ho)
  have HPUT := Lib.hid (fun hl w ho => cput_any q hl hi sv w ho)
  have HSAME := Lib.hid (fun p sv1 w h1 h2 hs1 hs2 => isSame_any p q sv1 sv w h1 h2 hs1 hs2)
  have hbx : Blk (w.alloc (.cells (rcells q sv) 32)) w.heap.size 32 (rcells q sv) := Blk.new _ _ _
  have hb0 : But (fun _ => False) w (w.alloc (.cells (rcells q sv) 32)) := (But.refl _ w).alloc _
  have HB0 := Lib.hid (And.intro hbx (And.intro hb0 (hops.nw hb0)))
  have HC := Lib.hid (fun V (hV : But (fun _ => False) (w.alloc (.cells (rcells q sv) 32)) V) => hbx.but hV (fun e => e))
  clear hbx hb0 hops hi
  have HLIM := Lib.hid (HLIM.out _ HB0.out.2.2)
  simp only [rv, rcells] at HB0 HLIM HC HPUT HSAME ⊢
  go_enter Try.func13, Try.ntmps13
  go_wp2_with fail
  refine HLIM.out.mono ?_
  rintro e w1 ⟨rfl, hb1⟩
  have hbut1 : But (fun _ => False) _ w1 := But.of_new hb1
  have HW1 := Lib.hid hbut1
  have HO1 := Lib.hid (HB0.out.2.2.nw hbut1)
  clear hb1 hbut1 HLIM
  obtain ⟨m, hm⟩ : ∃ m, m = lim q := ⟨_, rfl⟩
  rw [← hm]
  have HMM := Lib.hid hm
  clear hm
  cases m
  · have HN : Hid (¬ mayPut q) := Lib.hid (fun h => by have := h.1; rw [← HMM.out] at this; cases this)
    have HF := Lib.hid ((HB0.out.2.1.trans HW1.out (fun _ _ e => e)).new)
    go_wp2_with fail
    go_ret2
    exact ⟨HF.out, .inr ⟨HN.out, rfl⟩⟩
  have hx := HC.out w1 HW1.out
  have c0 : w1.cell? ⟨w.heap.size, 0, none⟩ = some (.int .i64 q.tag) := (hx.cell 0).trans rfl
  have c1 : w1.cell? ⟨w.heap.size, 1, none⟩ = some (.int .u64 (q.admin : Int)) := (hx.cell 1).trans rfl
  have c2 : w1.cell? ⟨w.heap.size, 2, none⟩ = some (.int .i64 q.bucket) := (hx.cell 2).trans rfl
  have c3 : w1.cell? ⟨w.heap.size, 3, none⟩ = some (.int .i64 q.quo.k) := (hx.cell 3).trans rfl
  have c4 : w1.cell? ⟨w.heap.size, 4, none⟩ = some (.int .i64 q.quo.b) := (hx.cell 4).trans rfl
  have c5 : w1.cell? ⟨w.heap.size, 5, none⟩ = some (.int .i64 q.quo.g) := (hx.cell 5).trans rfl
  have c6 : w1.cell? ⟨w.heap.size, 6, none⟩ = some (.int .i64 q.tok.b) := (hx.cell 6).trans rfl
  have c7 : w1.cell? ⟨w.heap.size, 7, none⟩ = some (.int .u32 (q.tok.g : Int)) := (hx.cell 7).trans rfl
  have c8 : w1.cell? ⟨w.heap.size, 8, none⟩ = some (.int .u32 (q.tok.s : Int)) := (hx.cell 8).trans rfl
  have c9 : w1.cell? ⟨w.heap.size, 9, none⟩ = some (.int .u64 (q.tok.x : Int)) := (hx.cell 9).trans rfl
  have c10 : w1.cell? ⟨w.heap.size, 10, none⟩ = some (sv) := (hx.cell 10).trans rfl
  have c11 : w1.cell? ⟨w.heap.size, 11, none⟩ = some (.string q.after) := (hx.cell 11).trans rfl
  have c12 : w1.cell? ⟨w.heap.size, 12, none⟩ = some (.bool q.first) := (hx.cell 12).trans rfl
  have c13 : w1.cell? ⟨w.heap.size, 13, none⟩ = some (.int .i64 q.count) := (hx.cell 13).trans rfl
  have c14 : w1.cell? ⟨w.heap.size, 14, none⟩ = some (.int .i64 q.rights) := (hx.cell 14).trans rfl
  have c15 : w1.cell? ⟨w.heap.size, 15, none⟩ = some (.int .u32 (q.serial : Int)) := (hx.cell 15).trans rfl
  clear hx
  have HPP := Lib.hid (HPUT.out HMM.out.symm w1 HO1.out)
  clear HPUT
  go_wp2_with fail
  clear c0 c1 c2 c3 c4 c5 c6 c7 c8 c9 c10 c11 c12 c13 c14 c15
  refine HPP.out.mono ?_
  rintro e w2 ⟨v, rfl, hown, hb2⟩
  obtain ⟨a2, k2, rfl, hr2, -, ha2⟩ := own_shape hown (bytesOf_bytes q)
  have hnil : a2 = none → k2 = 0 := fun e => by
    rcases ha2 with h | ⟨g, h, _⟩
    · exact h.2.1
    · rw [e] at h; cases h
  have hbut2 : But (fun _ => False) _ w2 := HW1.out.trans (But.of_new hb2 (S := fun _ => False)) (fun _ _ e => e)
  have hown0 := hown
  have HOWN := Lib.hid hown
  have hle := bytesOf_le HMM.out.symm
  have HREAD := Lib.hid (fun V (hV : But (fun _ => False) w2 V) => read_any a2 k2 (bytesOf q) V (hr2.but hV (fun _ _ _ e => e)) hnil (by omega))
  have HW2 := Lib.hid hbut2
  have HO2 := Lib.hid (HB0.out.2.2.nw hbut2)
  have HBYT := Lib.hid (readRq_few ⟨bytesOf q, false⟩ (bytesOf_bytes q))
  have HFEW := Lib.hid (lim_ops HMM.out.symm).1
  have hbb : Below w.heap.size w w2 := (HB0.out.2.1.trans hbut2 (fun _ _ e => e)).new
  have HBB := Lib.hid hbb
  have hw1s : w.heap.size ≤ w1.heap.size := (HB0.out.2.1.trans HW1.out (fun _ _ e => e)).size
  have HW1S := Lib.hid hw1s
  clear hown hown0 hb2 hr2 ha2 hnil hbut2 hle hbb hw1s HPP
  go_wp2_with fail
  refine Late.region_goes (fun V => But (fun _ => False) w2 V) (fun _ => false) (by kernel_rfl) ?_ (fun hH => ?_)
  · exact (But.refl _ w2).drew
  refine Late.Goes.takeT (i := 0) (v := ?_) (by simp only [List.getElem?_toArray, List.getElem?_cons_succ, List.getElem?_cons_zero]; rfl) (by kernel_rfl) (by kernel_rfl) (by kernel_rfl) (by kernel_rfl) (by kernel_rfl) (by exact fun _ _ _ h => h) (Or.inl ⟨by rfl, ?_⟩) hH ?_
  rotate_left
  · (intro wy hSw; (try dsimp only at hSw); have hx := HC.out wy (HW2.out.trans hSw (fun _ _ e => e)); have c0 : wy.cell? ⟨w.heap.size, 0, none⟩ = some (.int .i64 q.tag) := (hx.cell 0).trans rfl; have c1 : wy.cell? ⟨w.heap.size, 1, none⟩ = some (.int .u64 (q.admin : Int)) := (hx.cell 1).trans rfl; have c2 : wy.cell? ⟨w.heap.size, 2, none⟩ = some (.int .i64 q.bucket) := (hx.cell 2).trans rfl; have c3 : wy.cell? ⟨w.heap.size, 3, none⟩ = some (.int .i64 q.quo.k) := (hx.cell 3).trans rfl; have c4 : wy.cell? ⟨w.heap.size, 4, none⟩ = some (.int .i64 q.quo.b) := (hx.cell 4).trans rfl; have c5 : wy.cell? ⟨w.heap.size, 5, none⟩ = some (.int .i64 q.quo.g) := (hx.cell 5).trans rfl; have c6 : wy.cell? ⟨w.heap.size, 6, none⟩ = some (.int .i64 q.tok.b) := (hx.cell 6).trans rfl; have c7 : wy.cell? ⟨w.heap.size, 7, none⟩ = some (.int .u32 (q.tok.g : Int)) := (hx.cell 7).trans rfl; have c8 : wy.cell? ⟨w.heap.size, 8, none⟩ = some (.int .u32 (q.tok.s : Int)) := (hx.cell 8).trans rfl; have c9 : wy.cell? ⟨w.heap.size, 9, none⟩ = some (.int .u64 (q.tok.x : Int)) := (hx.cell 9).trans rfl; have c10 : wy.cell? ⟨w.heap.size, 10, none⟩ = some (sv) := (hx.cell 10).trans rfl; have c11 : wy.cell? ⟨w.heap.size, 11, none⟩ = some (.string q.after) := (hx.cell 11).trans rfl; have c12 : wy.cell? ⟨w.heap.size, 12, none⟩ = some (.bool q.first) := (hx.cell 12).trans rfl; have c13 : wy.cell? ⟨w.heap.size, 13, none⟩ = some (.int .i64 q.count) := (hx.cell 13).trans rfl; have c14 : wy.cell? ⟨w.heap.size, 14, none⟩ = some (.int .i64 q.rights) := (hx.cell 14).trans rfl; have c15 : wy.cell? ⟨w.heap.size, 15, none⟩ = some (.int .u32 (q.serial : Int)) := (hx.cell 15).trans rfl; go_simp; try (with_reducible rfl))
  try simp only [Act.put, List.setIfInBounds_toArray, List.set_cons_zero, List.set_cons_succ]
  refine Late.Goes.takeT (i := 2) (v := ?_) (by simp only [List.getElem?_toArray, List.getElem?_cons_succ, List.getElem?_cons_zero]; rfl) (by kernel_rfl) (by kernel_rfl) (by kernel_rfl) (by kernel_rfl) (by kernel_rfl) (by exact fun _ _ _ h => h) (Or.inl ⟨by rfl, ?_⟩) hH ?_
  rotate_left
  · (intro wy hSw; (try dsimp only at hSw); have hx := HC.out wy (HW2.out.trans hSw (fun _ _ e => e)); have c0 : wy.cell? ⟨w.heap.size, 0, none⟩ = some (.int .i64 q.tag) := (hx.cell 0).trans rfl; have c1 : wy.cell? ⟨w.heap.size, 1, none⟩ = some (.int .u64 (q.admin : Int)) := (hx.cell 1).trans rfl; have c2 : wy.cell? ⟨w.heap.size, 2, none⟩ = some (.int .i64 q.bucket) := (hx.cell 2).trans rfl; have c3 : wy.cell? ⟨w.heap.size, 3, none⟩ = some (.int .i64 q.quo.k) := (hx.cell 3).trans rfl; have c4 : wy.cell? ⟨w.heap.size, 4, none⟩ = some (.int .i64 q.quo.b) := (hx.cell 4).trans rfl; have c5 : wy.cell? ⟨w.heap.size, 5, none⟩ = some (.int .i64 q.quo.g) := (hx.cell 5).trans rfl; have c6 : wy.cell? ⟨w.heap.size, 6, none⟩ = some (.int .i64 q.tok.b) := (hx.cell 6).trans rfl; have c7 : wy.cell? ⟨w.heap.size, 7, none⟩ = some (.int .u32 (q.tok.g : Int)) := (hx.cell 7).trans rfl; have c8 : wy.cell? ⟨w.heap.size, 8, none⟩ = some (.int .u32 (q.tok.s : Int)) := (hx.cell 8).trans rfl; have c9 : wy.cell? ⟨w.heap.size, 9, none⟩ = some (.int .u64 (q.tok.x : Int)) := (hx.cell 9).trans rfl; have c10 : wy.cell? ⟨w.heap.size, 10, none⟩ = some (sv) := (hx.cell 10).trans rfl; have c11 : wy.cell? ⟨w.heap.size, 11, none⟩ = some (.string q.after) := (hx.cell 11).trans rfl; have c12 : wy.cell? ⟨w.heap.size, 12, none⟩ = some (.bool q.first) := (hx.cell 12).trans rfl; have c13 : wy.cell? ⟨w.heap.size, 13, none⟩ = some (.int .i64 q.count) := (hx.cell 13).trans rfl; have c14 : wy.cell? ⟨w.heap.size, 14, none⟩ = some (.int .i64 q.rights) := (hx.cell 14).trans rfl; have c15 : wy.cell? ⟨w.heap.size, 15, none⟩ = some (.int .u32 (q.serial : Int)) := (hx.cell 15).trans rfl; go_simp; try (with_reducible rfl))
  try simp only [Act.put, List.setIfInBounds_toArray, List.set_cons_zero, List.set_cons_succ]
  have HV2 := Lib.hid hH
  refine Late.Goes.one (i := 1) (by kernel_rfl) (by simp only [List.getElem?_toArray, List.getElem?_cons_succ, List.getElem?_cons_zero]; rfl) (fun K hK => ?_)
  clear hH
  go_simp
  go_at_call 20
  refine (HREAD.out _ HV2.out).mono ?_
  rintro e w3 ⟨svr, rfl, hof, hb3⟩
  have HV3 := Lib.hid (HV2.out.trans (But.of_new hb3 (S := fun _ => False)) (fun _ _ h => h))
  have HOF := Lib.hid hof.at_
  clear hb3 hof
  refine hK.out _ _ ?_ (fun hH => ?_)
  · exact fun _ => HV3.out
  clear hK K
  have hH := hH rfl
  try simp only [Act.put, List.setIfInBounds_toArray, List.set_cons_zero, List.set_cons_succ]
  refine Late.Goes.one (i := 3) (by kernel_rfl) (by simp only [List.getElem?_toArray, List.getElem?_cons_succ, List.getElem?_cons_zero]; rfl) (fun K hK => ?_)
  clear hH
  go_simp
  go_at_call 31
  refine (HSAME.out _ svr w3 HOF.out (HO2.out.nw HV3.out) (by have := HBYT.out; omega) (by have := HFEW.out; omega)).mono ?_
  rintro e w4 ⟨r, rfl, hri, hb4⟩
  have HV4 := Lib.hid (HV3.out.trans hb4 (fun _ _ h => h))
  have HRI := Lib.hid hri
  clear hb4 hri
  refine hK.out _ _ ?_ (fun hH => ?_)
  · exact fun _ => HV4.out
  clear hK K
  have hH := hH rfl
  try simp only [Act.put, List.setIfInBounds_toArray, List.set_cons_zero, List.set_cons_succ]
  refine Late.Goes.takeT (i := 4) (v := ?_) (by simp only [List.getElem?_toArray, List.getElem?_cons_succ, List.getElem?_cons_zero]; rfl) (by kernel_rfl) (by kernel_rfl) (by kernel_rfl) (by kernel_rfl) (by kernel_rfl) (by exact fun _ _ _ h => h) (Or.inl ⟨by rfl, ?_⟩) hH ?_
  rotate_left
  · (intro wy hSw; (try dsimp only at hSw); have hx := HC.out wy (HW2.out.trans hSw (fun _ _ e => e)); have c0 : wy.cell? ⟨w.heap.size, 0, none⟩ = some (.int .i64 q.tag) := (hx.cell 0).trans rfl; have c1 : wy.cell? ⟨w.heap.size, 1, none⟩ = some (.int .u64 (q.admin : Int)) := (hx.cell 1).trans rfl; have c2 : wy.cell? ⟨w.heap.size, 2, none⟩ = some (.int .i64 q.bucket) := (hx.cell 2).trans rfl; have c3 : wy.cell? ⟨w.heap.size, 3, none⟩ = some (.int .i64 q.quo.k) := (hx.cell 3).trans rfl; have c4 : wy.cell? ⟨w.heap.size, 4, none⟩ = some (.int .i64 q.quo.b) := (hx.cell 4).trans rfl; have c5 : wy.cell? ⟨w.heap.size, 5, none⟩ = some (.int .i64 q.quo.g) := (hx.cell 5).trans rfl; have c6 : wy.cell? ⟨w.heap.size, 6, none⟩ = some (.int .i64 q.tok.b) := (hx.cell 6).trans rfl; have c7 : wy.cell? ⟨w.heap.size, 7, none⟩ = some (.int .u32 (q.tok.g : Int)) := (hx.cell 7).trans rfl; have c8 : wy.cell? ⟨w.heap.size, 8, none⟩ = some (.int .u32 (q.tok.s : Int)) := (hx.cell 8).trans rfl; have c9 : wy.cell? ⟨w.heap.size, 9, none⟩ = some (.int .u64 (q.tok.x : Int)) := (hx.cell 9).trans rfl; have c10 : wy.cell? ⟨w.heap.size, 10, none⟩ = some (sv) := (hx.cell 10).trans rfl; have c11 : wy.cell? ⟨w.heap.size, 11, none⟩ = some (.string q.after) := (hx.cell 11).trans rfl; have c12 : wy.cell? ⟨w.heap.size, 12, none⟩ = some (.bool q.first) := (hx.cell 12).trans rfl; have c13 : wy.cell? ⟨w.heap.size, 13, none⟩ = some (.int .i64 q.count) := (hx.cell 13).trans rfl; have c14 : wy.cell? ⟨w.heap.size, 14, none⟩ = some (.int .i64 q.rights) := (hx.cell 14).trans rfl; have c15 : wy.cell? ⟨w.heap.size, 15, none⟩ = some (.int .u32 (q.serial : Int)) := (hx.cell 15).trans rfl; go_simp; try (with_reducible rfl))
  try simp only [Act.put, List.setIfInBounds_toArray, List.set_cons_zero, List.set_cons_succ]
  refine Late.Goes.done (by kernel_rfl) ?_ _
  have HF := Lib.hid ((HB0.out.2.1.trans (HW2.out.trans HV4.out (fun _ _ e => e)) (fun _ _ e => e)).new)
  clear hH
  cases r
  · have HN : Hid (¬ mayPut q) := Lib.hid (fun h => by have := HRI.out.2 h.2; cases this)
    go_wp2_with fail
    go_ret2
    exact ⟨HF.out, .inr ⟨HN.out, rfl⟩⟩
  · have HY : Hid (mayPut q) := Lib.hid ⟨HMM.out.symm, HRI.out.1 rfl⟩
    go_wp2_with fail
    go_ret2
    exact ⟨HF.out, .inl ⟨HY.out, _, rfl, own_lower (ownsRow_but HOWN.out HV4.out (fun _ _ e => e)) HW1S.out⟩⟩
end Go.Proofs.Ytbdbbnpkekcefaa.Cmd
