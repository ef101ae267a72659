/- Contracts of the bucket's New, Meta and Tokens. -/
import Derived.Test.YtgjofinbdigmcaaBukApply
import Derived.Test.YtgjofinbdigmcaaRgtAll
namespace Go.Proofs.Ytgjofinbdigmcaa.Buk
open Go.Proofs.Ytgjofinbdigmcaa.Mem
open Go.ChangeShapes Go.WideShapes Go.ChangeAt Go.RowKit
set_option linter.unusedVariables false
set_option linter.unusedSimpArgs false
def newB (id : Int) (gen : Nat) (q1 q2 q3 : Int) : Bk := ⟨id, gen, q1, q2, q3, 1, 1, 0, 0, []⟩
abbrev noT : Tab := List.replicate 8 none
theorem all_new : all noT = [] := by simp [all]
theorem ok_new (id : Int) (gen : Nat) (q1 q2 q3 : Int) (hid : -9223372036854775808 ≤ id ∧ id ≤ 9223372036854775807) (hg : gen < 4294967296) : Ok (newB id gen q1 q2 q3) noT [] 0 :=
  ⟨by rw [all_new]; rfl, fun e he => by simp at he, Nat.le_refl _, fun x hx => absurd hx List.not_mem_nil, fun e he => by simp at he, hid, hg, by show 1 < _; omega, by show 1 < _; omega, by show (0 : Int) ≤ 0 ∧ (0 : Int) ≤ _; simp⟩
def metaR (B : Bk) : Rcd := ⟨1, B.id, B.gen, B.q1, B.q2, B.q3, B.seq, B.serial, 0, 0, Rec.nothing, Rec.nothing, 0, 0⟩
def tokR (id : Int) (gen : Nat) (x : Rgt.Tok) : Rcd := ⟨5, id, gen, 0, 0, 0, 0, x.s, x.r, x.k, Rec.nothing, Rec.nothing, 0, 0⟩
theorem results_row1 {P : Program} {fn : Func} {p : Tmp} {ty : TypeId} (h : fn.results = #[.cell p ty]) (tmps : Array Value) (w : World) (g : Nat) (t : TypeId) (cs : Array Value) (fr : Nat × Nat) (d : TypeDesc)
    (hp : tmps.getD p undef = .pointer (some ⟨g, 0, none⟩)) (hg : w.heap[g]? = some (.cells cs t fr))
    (hu : P.underlying ty = some d) (hd : (match d with | .struct _ | .array _ _ => true | _ => false) = true) (hi : (P.info? ty).map (·.size) = some cs.size) :
    (results fn tmps).run P w = .ok (.agg cs) w := by
  have hp' : tmps[p]?.getD undef = .pointer (some ⟨g, 0, none⟩) := by simpa using hp
  simp [results, h, hp', asAddr, run_loadVar_row w g t ty cs fr d hg hu hd hi]
abbrev quB (a b c : Int) : Array Value := #[.int .i64 a, .int .i64 b, .int .i64 c]
set_option maxRecDepth 100000 in
set_option maxHeartbeats 2000000 in
theorem new_any (id : Int) (gen : Nat) (q1 q2 q3 : Int) (w : World) : Calls Try.prog 6 #[.int .i64 id, .int .u32 (gen : Int), .agg #[.int .i64 q1, .int .i64 q2, .int .i64 q3]] w fun e w' => ∃ s, e = .returned (.pointer (some ⟨s.p, 0, none⟩)) ∧ BM w' s (newB id gen q1 q2 q3) noT [] 0 ∧ (∀ k, Foot s k → w.heap.size ≤ k) ∧ But (fun _ => False) w w' := by
  have HX := Lib.hid (Blk.new w 23 (quB q1 q2 q3))
  have HB0 := Lib.hid ((But.refl (fun _ => False) w).alloc (.cells (quB q1 q2 q3) 23))
  go_enter Try.func6, Try.ntmps6
  go_wp2_with fail
  obtain ⟨b5, hb5⟩ : ∃ b, b = w.heap.size := ⟨_, rfl⟩
  change Code.wp _ _ _ _ (w.alloc (.cells (quB q1 q2 q3) 23))
  rw [← hb5] at HX ⊢
  generalize w.alloc (.cells (quB q1 q2 q3) 23) = W at HX HB0 ⊢
  clear hb5
  have HXR := Lib.hid (fun V (hV : But (fun _ => False) W V) => show V.rangeAt b5 0 [.int .i64 q1, .int .i64 q2, .int .i64 q3] from blk_range0 (A := []) (B := [.int .i64 q1, .int .i64 q2, .int .i64 q3]) (HX.out.but hV (fun h => h)))
  refine Late.region_goes (fun V => But (fun _ => False) W V) (fun _ => false) (by kernel_rfl) ?_ (fun hH => ?_)
  · exact (But.refl _ W).drew
  refine Late.Goes.takeT (i := 0) (v := ?_) (by simp only [List.getElem?_toArray, List.getElem?_cons_succ, List.getElem?_cons_zero]; rfl) (by kernel_rfl) (by kernel_rfl) (by kernel_rfl) (by kernel_rfl) (by kernel_rfl) (by exact fun _ _ _ h => h) (Or.inl ⟨by rfl, ?_⟩) hH ?_
  rotate_left
  · (intro wy hSw; (try dsimp only at hSw); skip; go_simp; try (with_reducible rfl))
  try simp only [Act.put, List.setIfInBounds_toArray, List.set_cons_zero, List.set_cons_succ]
  refine Late.Goes.takeT (i := 1) (v := ?_) (by simp only [List.getElem?_toArray, List.getElem?_cons_succ, List.getElem?_cons_zero]; rfl) (by kernel_rfl) (by kernel_rfl) (by kernel_rfl) (by kernel_rfl) (by kernel_rfl) (by exact fun _ _ _ h => h) (Or.inl ⟨by rfl, ?_⟩) hH ?_
  rotate_left
  · (intro wy hSw; (try dsimp only at hSw); skip; go_simp; try (with_reducible rfl))
  try simp only [Act.put, List.setIfInBounds_toArray, List.set_cons_zero, List.set_cons_succ]
  refine Late.Goes.takeT (i := 2) (v := _) (by simp only [List.getElem?_toArray, List.getElem?_cons_succ, List.getElem?_cons_zero]; rfl) (by kernel_rfl) (by kernel_rfl) (by kernel_rfl) (by kernel_rfl) (by kernel_rfl) (by exact fun _ _ _ h => h) (yields_quota (by rfl) _ rfl b5 0 rfl q1 q2 q3 (fun V hV => HXR.out V hV)) hH ?_
  try simp only [Act.put, List.setIfInBounds_toArray, List.set_cons_zero, List.set_cons_succ]
  have HV := Lib.hid hH
  refine Late.Goes.one (i := 3) (by kernel_rfl) (by simp only [List.getElem?_toArray, List.getElem?_cons_succ, List.getElem?_cons_zero]; rfl) (fun K hK => ?_)
  clear hH
  go_simp
  go_at_call 16
  refine (Key.knew_any _).mono ?_
  rintro e w1 ⟨rfl, hk1, hb1⟩
  have HK1 := Lib.hid hk1
  have HV1 := Lib.hid (HV.out.trans hb1 (fun _ _ h => h))
  clear hk1 hb1
  refine hK.out _ _ ?_ (fun hH => ?_)
  · exact fun _ => HV1.out
  clear hK K
  have hH := hH rfl
  try simp only [Act.put, List.setIfInBounds_toArray, List.set_cons_zero, List.set_cons_succ]
  refine Late.Goes.one (i := 4) (by kernel_rfl) (by simp only [List.getElem?_toArray, List.getElem?_cons_succ, List.getElem?_cons_zero]; rfl) (fun K hK => ?_)
  clear hH
  go_simp
  go_at_call 17
  refine (Exp.hnew_any _).mono ?_
  rintro e w2 ⟨rfl, hk2, hb2⟩
  have HK2 := Lib.hid hk2
  have HB2 := Lib.hid hb2
  have HV2 := Lib.hid (HV1.out.trans hb2 (fun _ _ h => h))
  clear hk2 hb2
  refine hK.out _ _ ?_ (fun hH => ?_)
  · exact fun _ => HV2.out
  clear hK K
  have hH := hH rfl
  try simp only [Act.put, List.setIfInBounds_toArray, List.set_cons_zero, List.set_cons_succ]
  refine Late.Goes.one (i := 5) (by kernel_rfl) (by simp only [List.getElem?_toArray, List.getElem?_cons_succ, List.getElem?_cons_zero]; rfl) (fun K hK => ?_)
  clear hH
  go_simp
  go_at_call 18
  refine (Rgt.rgt_new _).mono ?_
  rintro e w3 ⟨tp, tm, rfl, hk3, ⟨htp, htm⟩, hb3⟩
  have HK3 := Lib.hid hk3
  have HB3 := Lib.hid hb3
  have HV3 := Lib.hid (HV2.out.trans hb3 (fun _ _ h => h))
  have HTT := Lib.hid (And.intro htp htm)
  clear hk3 hb3 htp htm
  refine hK.out _ _ ?_ (fun hH => ?_)
  · exact fun _ => HV3.out
  clear hK K
  have hH := hH rfl
  try simp only [Act.put, List.setIfInBounds_toArray, List.set_cons_zero, List.set_cons_succ]
  refine Late.Goes.takeT (i := 6) (v := ?_) (by simp only [List.getElem?_toArray, List.getElem?_cons_succ, List.getElem?_cons_zero]; rfl) (by kernel_rfl) (by kernel_rfl) (by kernel_rfl) (by kernel_rfl) (by kernel_rfl) (by exact fun _ _ _ h => h) (Or.inl ⟨by rfl, ?_⟩) hH ?_
  rotate_left
  · (intro wy hSw; (try dsimp only at hSw); skip; go_simp; try (with_reducible rfl))
  try simp only [Act.put, List.setIfInBounds_toArray, List.set_cons_zero, List.set_cons_succ]
  refine Late.Goes.one (i := 7) (by kernel_rfl) (by simp only [List.getElem?_toArray, List.getElem?_cons_succ, List.getElem?_cons_zero]; rfl) (fun K hK => ?_)
  clear hH
  go_simp
  have hb4 : But (fun _ => False) w3 (w3.alloc (.cells (bcells (newB id gen q1 q2 q3) ⟨w3.heap.size, W.drew.heap.size + 1, W.drew.heap.size, w1.heap.size, .slice none 0 0, w1.heap.size, tp, tm⟩) 56)) := (But.refl _ w3).alloc _
  have HE := Lib.hid (show ∃ s : Bl, s.p = w3.heap.size ∧ BM (w3.alloc (.cells (bcells (newB id gen q1 q2 q3) ⟨w3.heap.size, W.drew.heap.size + 1, W.drew.heap.size, w1.heap.size, .slice none 0 0, w1.heap.size, tp, tm⟩) 56)) s (newB id gen q1 q2 q3) noT [] 0 ∧ (∀ k, Foot s k → w.heap.size ≤ k) from by
    have hb2' := HB2.out.trans HB3.out (fun _ _ h => h)
    have h0 := HB0.out.size
    have h1 : W.drew.heap.size = W.heap.size := rfl
    have h2 := HV1.out.size
    have h3 := HV2.out.size
    have h4 := HV3.out.size
    refine ⟨⟨w3.heap.size, W.drew.heap.size + 1, W.drew.heap.size, w1.heap.size, .slice none 0 0, w1.heap.size, tp, tm⟩, rfl, ⟨Blk.new _ _ _, (HK1.out.but hb2' (fun h => h) (fun h => h)).but hb4 (fun h => h) (fun h => h), (HK2.out.new HB3.out).new hb4, HK3.out.new hb4⟩, ?_⟩
    have h5 := HTT.out
    rintro k (e | e | e | e | e | e | e)
    · have e : k = w3.heap.size := e
      omega
    · have e : k = W.drew.heap.size + 1 := e
      omega
    · have e : k = W.drew.heap.size := e
      omega
    · have e : k = w1.heap.size := e
      omega
    · cases e
    · have e : k = tp := e
      omega
    · have e : k = tm := e
      omega)
  have HFB := Lib.hid ((HB0.out.trans HV3.out (fun _ _ h => h)).trans hb4 (fun _ _ h => h))
  change K (_ : Act) (w3.alloc (.cells (bcells (newB id gen q1 q2 q3) ⟨w3.heap.size, W.drew.heap.size + 1, W.drew.heap.size, w1.heap.size, .slice none 0 0, w1.heap.size, tp, tm⟩) 56))
  have HV4 := Lib.hid (HV3.out.trans hb4 (fun _ _ h => h))
  clear hb4
  generalize w3.alloc (.cells (bcells (newB id gen q1 q2 q3) ⟨w3.heap.size, W.drew.heap.size + 1, W.drew.heap.size, w1.heap.size, .slice none 0 0, w1.heap.size, tp, tm⟩) 56) = w4 at HE HFB HV4 ⊢
  refine hK.out _ _ ?_ (fun hH => ?_)
  · exact fun _ => HV4.out
  clear hK K
  have hH := hH rfl
  try simp only [Act.put, List.setIfInBounds_toArray, List.set_cons_zero, List.set_cons_succ]
  refine Late.Goes.takeT (i := 8) (v := ?_) (by simp only [List.getElem?_toArray, List.getElem?_cons_succ, List.getElem?_cons_zero]; rfl) (by kernel_rfl) (by kernel_rfl) (by kernel_rfl) (by kernel_rfl) (by kernel_rfl) (by exact fun _ _ _ h => h) (Or.inl ⟨by rfl, ?_⟩) hH ?_
  rotate_left
  · (intro wy hSw; (try dsimp only at hSw); skip; go_simp; try (with_reducible rfl))
  try simp only [Act.put, List.setIfInBounds_toArray, List.set_cons_zero, List.set_cons_succ]
  refine Late.Goes.done (by kernel_rfl) ?_ _
  go_wp2_with fail
  go_ret
  obtain ⟨s, h1, h2, h3⟩ := HE.out
  exact ⟨s, by rw [h1]; rfl, h2, h3, HFB.out⟩
section
variable {w w' : World} {s : Bl} {B : Bk} {T : Tab} {m : List It} {i : Nat}
theorem range_q {w : World} {s : Bl} {B : Bk} {t : TypeId} {g : Nat} (h : Blk w g t (bcells B s)) : w.rangeAt g 2 [.int .i64 B.q1, .int .i64 B.q2, .int .i64 B.q3] := by
  intro j v hv
  have hj : j < 3 := (List.getElem?_eq_some_iff.1 hv).1
  rw [h.cell]
  rcases j with _ | _ | _ | j
  · exact hv
  · exact hv
  · exact hv
  · omega
theorem rcs_one (r : Rcd) : ∀ v ∈ rcs r, v.oneCell' = true := by simp [rcs, Value.oneCell']
set_option maxRecDepth 100000 in
set_option maxHeartbeats 2000000 in
theorem meta_any (h : BM w s B T m i) : Calls Try.prog 12 #[.pointer (some ⟨s.p, 0, none⟩)] w fun e w' => e = .returned (Rec.rv (metaR B)) ∧ But (fun _ => False) w w' := by
  have HX := Lib.hid (Blk.new w 33 (Rec.cells Rec.zero))
  have HB0 := Lib.hid ((But.refl (fun _ => False) w).alloc (.cells (Rec.cells Rec.zero) 33))
  have HM := Lib.hid (fun V (hV : But (fun _ => False) w V) => h.new hV)
  have HC := Lib.hid (fun V (hV : But (fun _ => False) w V) => And.intro (show V.cell? ⟨s.p, 0, none⟩ = some (.int .i64 B.id) from (h.new hV).cell 0) (And.intro (show V.cell? ⟨s.p, 1, none⟩ = some (.int .u32 (B.gen : Int)) from (h.new hV).cell 1) (And.intro (show V.cell? ⟨s.p, 5, none⟩ = some (.int .u64 (B.seq : Int)) from (h.new hV).cell 5) (show V.cell? ⟨s.p, 6, none⟩ = some (.int .u32 (B.serial : Int)) from (h.new hV).cell 6))))
  clear h
  go_enter Try.func12, Try.ntmps12
  go_wp2_with fail
  obtain ⟨b2, hb2⟩ : ∃ b, b = w.heap.size := ⟨_, rfl⟩
  change Code.wp _ _ _ _ (w.alloc (.cells (Rec.cells Rec.zero) 33))
  rw [← hb2] at HX ⊢
  generalize w.alloc (.cells (Rec.cells Rec.zero) 33) = W at HX HB0 ⊢
  have HBL := Lib.hid (show w.heap.size ≤ b2 from by omega)
  clear hb2
  refine Late.region_goes (fun V => V = W.drew) (fun j => j == 21) (by kernel_rfl) ?_ (fun hH => ?_)
  · rfl
  refine Late.Goes.takeT (i := 0) (v := ?_) (by simp only [List.getElem?_toArray, List.getElem?_cons_succ, List.getElem?_cons_zero]; rfl) (by kernel_rfl) (by kernel_rfl) (by kernel_rfl) (by kernel_rfl) (by kernel_rfl) (by exact fun _ _ _ h => h) (Or.inl ⟨by rfl, ?_⟩) hH ?_
  rotate_left
  · (intro wy hSw; (try dsimp only at hSw); subst hSw; have kk := HC.out _ HB0.out.drew; have k0 := kk.1; have k1 := kk.2.1; have k2 := kk.2.2.1; have k3 := kk.2.2.2; clear kk; go_simp; try (with_reducible rfl))
  try simp only [Act.put, List.setIfInBounds_toArray, List.set_cons_zero, List.set_cons_succ]
  refine Late.Goes.takeT (i := 1) (v := ?_) (by simp only [List.getElem?_toArray, List.getElem?_cons_succ, List.getElem?_cons_zero]; rfl) (by kernel_rfl) (by kernel_rfl) (by kernel_rfl) (by kernel_rfl) (by kernel_rfl) (by exact fun _ _ _ h => h) (Or.inl ⟨by rfl, ?_⟩) hH ?_
  rotate_left
  · (intro wy hSw; (try dsimp only at hSw); subst hSw; have kk := HC.out _ HB0.out.drew; have k0 := kk.1; have k1 := kk.2.1; have k2 := kk.2.2.1; have k3 := kk.2.2.2; clear kk; go_simp; try (with_reducible rfl))
  try simp only [Act.put, List.setIfInBounds_toArray, List.set_cons_zero, List.set_cons_succ]
  refine Late.Goes.takeT (i := 2) (v := ?_) (by simp only [List.getElem?_toArray, List.getElem?_cons_succ, List.getElem?_cons_zero]; rfl) (by kernel_rfl) (by kernel_rfl) (by kernel_rfl) (by kernel_rfl) (by kernel_rfl) (by exact fun _ _ _ h => h) (Or.inl ⟨by rfl, ?_⟩) hH ?_
  rotate_left
  · (intro wy hSw; (try dsimp only at hSw); subst hSw; have kk := HC.out _ HB0.out.drew; have k0 := kk.1; have k1 := kk.2.1; have k2 := kk.2.2.1; have k3 := kk.2.2.2; clear kk; go_simp; try (with_reducible rfl))
  try simp only [Act.put, List.setIfInBounds_toArray, List.set_cons_zero, List.set_cons_succ]
  refine Late.Goes.takeT (i := 3) (v := ?_) (by simp only [List.getElem?_toArray, List.getElem?_cons_succ, List.getElem?_cons_zero]; rfl) (by kernel_rfl) (by kernel_rfl) (by kernel_rfl) (by kernel_rfl) (by kernel_rfl) (by exact fun _ _ _ h => h) (Or.inl ⟨by rfl, ?_⟩) hH ?_
  rotate_left
  · (intro wy hSw; (try dsimp only at hSw); subst hSw; have kk := HC.out _ HB0.out.drew; have k0 := kk.1; have k1 := kk.2.1; have k2 := kk.2.2.1; have k3 := kk.2.2.2; clear kk; go_simp; try (with_reducible rfl))
  try simp only [Act.put, List.setIfInBounds_toArray, List.set_cons_zero, List.set_cons_succ]
  refine Late.Goes.takeT (i := 4) (v := ?_) (by simp only [List.getElem?_toArray, List.getElem?_cons_succ, List.getElem?_cons_zero]; rfl) (by kernel_rfl) (by kernel_rfl) (by kernel_rfl) (by kernel_rfl) (by kernel_rfl) (by exact fun _ _ _ h => h) (Or.inl ⟨by rfl, ?_⟩) hH ?_
  rotate_left
  · (intro wy hSw; (try dsimp only at hSw); subst hSw; have kk := HC.out _ HB0.out.drew; have k0 := kk.1; have k1 := kk.2.1; have k2 := kk.2.2.1; have k3 := kk.2.2.2; clear kk; go_simp; try (with_reducible rfl))
  try simp only [Act.put, List.setIfInBounds_toArray, List.set_cons_zero, List.set_cons_succ]
  refine Late.Goes.takeT (i := 5) (v := ?_) (by simp only [List.getElem?_toArray, List.getElem?_cons_succ, List.getElem?_cons_zero]; rfl) (by kernel_rfl) (by kernel_rfl) (by kernel_rfl) (by kernel_rfl) (by kernel_rfl) (by exact fun _ _ _ h => h) (Or.inl ⟨by rfl, ?_⟩) hH ?_
  rotate_left
  · (intro wy hSw; (try dsimp only at hSw); subst hSw; have kk := HC.out _ HB0.out.drew; have k0 := kk.1; have k1 := kk.2.1; have k2 := kk.2.2.1; have k3 := kk.2.2.2; clear kk; go_simp; try (with_reducible rfl))
  try simp only [Act.put, List.setIfInBounds_toArray, List.set_cons_zero, List.set_cons_succ]
  refine Late.Goes.takeT (i := 6) (v := ?_) (by simp only [List.getElem?_toArray, List.getElem?_cons_succ, List.getElem?_cons_zero]; rfl) (by kernel_rfl) (by kernel_rfl) (by kernel_rfl) (by kernel_rfl) (by kernel_rfl) (by exact fun _ _ _ h => h) (Or.inl ⟨by rfl, ?_⟩) hH ?_
  rotate_left
  · (intro wy hSw; (try dsimp only at hSw); subst hSw; have kk := HC.out _ HB0.out.drew; have k0 := kk.1; have k1 := kk.2.1; have k2 := kk.2.2.1; have k3 := kk.2.2.2; clear kk; go_simp; try (with_reducible rfl))
  try simp only [Act.put, List.setIfInBounds_toArray, List.set_cons_zero, List.set_cons_succ]
  refine Late.Goes.takeT (i := 7) (v := ?_) (by simp only [List.getElem?_toArray, List.getElem?_cons_succ, List.getElem?_cons_zero]; rfl) (by kernel_rfl) (by kernel_rfl) (by kernel_rfl) (by kernel_rfl) (by kernel_rfl) (by exact fun _ _ _ h => h) (Or.inl ⟨by rfl, ?_⟩) hH ?_
  rotate_left
  · (intro wy hSw; (try dsimp only at hSw); subst hSw; have kk := HC.out _ HB0.out.drew; have k0 := kk.1; have k1 := kk.2.1; have k2 := kk.2.2.1; have k3 := kk.2.2.2; clear kk; go_simp; try (with_reducible rfl))
  try simp only [Act.put, List.setIfInBounds_toArray, List.set_cons_zero, List.set_cons_succ]
  refine Late.Goes.takeT (i := 8) (v := ?_) (by simp only [List.getElem?_toArray, List.getElem?_cons_succ, List.getElem?_cons_zero]; rfl) (by kernel_rfl) (by kernel_rfl) (by kernel_rfl) (by kernel_rfl) (by kernel_rfl) (by exact fun _ _ _ h => h) (Or.inl ⟨by rfl, ?_⟩) hH ?_
  rotate_left
  · (intro wy hSw; (try dsimp only at hSw); subst hSw; have kk := HC.out _ HB0.out.drew; have k0 := kk.1; have k1 := kk.2.1; have k2 := kk.2.2.1; have k3 := kk.2.2.2; clear kk; go_simp; try (with_reducible rfl))
  try simp only [Act.put, List.setIfInBounds_toArray, List.set_cons_zero, List.set_cons_succ]
  refine Late.Goes.takeT (i := 9) (v := ?_) (by simp only [List.getElem?_toArray, List.getElem?_cons_succ, List.getElem?_cons_zero]; rfl) (by kernel_rfl) (by kernel_rfl) (by kernel_rfl) (by kernel_rfl) (by kernel_rfl) (by exact fun _ _ _ h => h) (Or.inl ⟨by rfl, ?_⟩) hH ?_
  rotate_left
  · (intro wy hSw; (try dsimp only at hSw); subst hSw; have kk := HC.out _ HB0.out.drew; have k0 := kk.1; have k1 := kk.2.1; have k2 := kk.2.2.1; have k3 := kk.2.2.2; clear kk; go_simp; try (with_reducible rfl))
  try simp only [Act.put, List.setIfInBounds_toArray, List.set_cons_zero, List.set_cons_succ]
  refine Late.Goes.takeT (i := 10) (v := ?_) (by simp only [List.getElem?_toArray, List.getElem?_cons_succ, List.getElem?_cons_zero]; rfl) (by kernel_rfl) (by kernel_rfl) (by kernel_rfl) (by kernel_rfl) (by kernel_rfl) (by exact fun _ _ _ h => h) (Or.inl ⟨by rfl, ?_⟩) hH ?_
  rotate_left
  · (intro wy hSw; (try dsimp only at hSw); subst hSw; have kk := HC.out _ HB0.out.drew; have k0 := kk.1; have k1 := kk.2.1; have k2 := kk.2.2.1; have k3 := kk.2.2.2; clear kk; go_simp; try (with_reducible rfl))
  try simp only [Act.put, List.setIfInBounds_toArray, List.set_cons_zero, List.set_cons_succ]
  refine Late.Goes.takeT (i := 12) (v := ?_) (by simp only [List.getElem?_toArray, List.getElem?_cons_succ, List.getElem?_cons_zero]; rfl) (by kernel_rfl) (by kernel_rfl) (by kernel_rfl) (by kernel_rfl) (by kernel_rfl) (by exact fun _ _ _ h => h) (Or.inl ⟨by rfl, ?_⟩) hH ?_
  rotate_left
  · (intro wy hSw; (try dsimp only at hSw); subst hSw; have kk := HC.out _ HB0.out.drew; have k0 := kk.1; have k1 := kk.2.1; have k2 := kk.2.2.1; have k3 := kk.2.2.2; clear kk; go_simp; try (with_reducible rfl))
  try simp only [Act.put, List.setIfInBounds_toArray, List.set_cons_zero, List.set_cons_succ]
  refine Late.Goes.takeT (i := 13) (v := ?_) (by simp only [List.getElem?_toArray, List.getElem?_cons_succ, List.getElem?_cons_zero]; rfl) (by kernel_rfl) (by kernel_rfl) (by kernel_rfl) (by kernel_rfl) (by kernel_rfl) (by exact fun _ _ _ h => h) (Or.inl ⟨by rfl, ?_⟩) hH ?_
  rotate_left
  · (intro wy hSw; (try dsimp only at hSw); subst hSw; have kk := HC.out _ HB0.out.drew; have k0 := kk.1; have k1 := kk.2.1; have k2 := kk.2.2.1; have k3 := kk.2.2.2; clear kk; go_simp; try (with_reducible rfl))
  try simp only [Act.put, List.setIfInBounds_toArray, List.set_cons_zero, List.set_cons_succ]
  refine Late.Goes.takeT (i := 14) (v := ?_) (by simp only [List.getElem?_toArray, List.getElem?_cons_succ, List.getElem?_cons_zero]; rfl) (by kernel_rfl) (by kernel_rfl) (by kernel_rfl) (by kernel_rfl) (by kernel_rfl) (by exact fun _ _ _ h => h) (Or.inl ⟨by rfl, ?_⟩) hH ?_
  rotate_left
  · (intro wy hSw; (try dsimp only at hSw); subst hSw; have kk := HC.out _ HB0.out.drew; have k0 := kk.1; have k1 := kk.2.1; have k2 := kk.2.2.1; have k3 := kk.2.2.2; clear kk; go_simp; try (with_reducible rfl))
  try simp only [Act.put, List.setIfInBounds_toArray, List.set_cons_zero, List.set_cons_succ]
  refine Late.Goes.takeT (i := 15) (v := ?_) (by simp only [List.getElem?_toArray, List.getElem?_cons_succ, List.getElem?_cons_zero]; rfl) (by kernel_rfl) (by kernel_rfl) (by kernel_rfl) (by kernel_rfl) (by kernel_rfl) (by exact fun _ _ _ h => h) (Or.inl ⟨by rfl, ?_⟩) hH ?_
  rotate_left
  · (intro wy hSw; (try dsimp only at hSw); subst hSw; have kk := HC.out _ HB0.out.drew; have k0 := kk.1; have k1 := kk.2.1; have k2 := kk.2.2.1; have k3 := kk.2.2.2; clear kk; go_simp; try (with_reducible rfl))
  try simp only [Act.put, List.setIfInBounds_toArray, List.set_cons_zero, List.set_cons_succ]
  refine Late.Goes.takeT (i := 16) (v := ?_) (by simp only [List.getElem?_toArray, List.getElem?_cons_succ, List.getElem?_cons_zero]; rfl) (by kernel_rfl) (by kernel_rfl) (by kernel_rfl) (by kernel_rfl) (by kernel_rfl) (by exact fun _ _ _ h => h) (Or.inl ⟨by rfl, ?_⟩) hH ?_
  rotate_left
  · (intro wy hSw; (try dsimp only at hSw); subst hSw; have kk := HC.out _ HB0.out.drew; have k0 := kk.1; have k1 := kk.2.1; have k2 := kk.2.2.1; have k3 := kk.2.2.2; clear kk; go_simp; try (with_reducible rfl))
  try simp only [Act.put, List.setIfInBounds_toArray, List.set_cons_zero, List.set_cons_succ]
  refine Late.Goes.takeT (i := 17) (v := ?_) (by simp only [List.getElem?_toArray, List.getElem?_cons_succ, List.getElem?_cons_zero]; rfl) (by kernel_rfl) (by kernel_rfl) (by kernel_rfl) (by kernel_rfl) (by kernel_rfl) (by exact fun _ _ _ h => h) (Or.inl ⟨by rfl, ?_⟩) hH ?_
  rotate_left
  · (intro wy hSw; (try dsimp only at hSw); subst hSw; have kk := HC.out _ HB0.out.drew; have k0 := kk.1; have k1 := kk.2.1; have k2 := kk.2.2.1; have k3 := kk.2.2.2; clear kk; go_simp; try (with_reducible rfl))
  try simp only [Act.put, List.setIfInBounds_toArray, List.set_cons_zero, List.set_cons_succ]
  refine Late.Goes.takeT (i := 18) (v := ?_) (by simp only [List.getElem?_toArray, List.getElem?_cons_succ, List.getElem?_cons_zero]; rfl) (by kernel_rfl) (by kernel_rfl) (by kernel_rfl) (by kernel_rfl) (by kernel_rfl) (by exact fun _ _ _ h => h) (Or.inl ⟨by rfl, ?_⟩) hH ?_
  rotate_left
  · (intro wy hSw; (try dsimp only at hSw); subst hSw; have kk := HC.out _ HB0.out.drew; have k0 := kk.1; have k1 := kk.2.1; have k2 := kk.2.2.1; have k3 := kk.2.2.2; clear kk; go_simp; try (with_reducible rfl))
  try simp only [Act.put, List.setIfInBounds_toArray, List.set_cons_zero, List.set_cons_succ]
  refine Late.Goes.takeT (i := 19) (v := ?_) (by simp only [List.getElem?_toArray, List.getElem?_cons_succ, List.getElem?_cons_zero]; rfl) (by kernel_rfl) (by kernel_rfl) (by kernel_rfl) (by kernel_rfl) (by kernel_rfl) (by exact fun _ _ _ h => h) (Or.inl ⟨by rfl, ?_⟩) hH ?_
  rotate_left
  · (intro wy hSw; (try dsimp only at hSw); subst hSw; have kk := HC.out _ HB0.out.drew; have k0 := kk.1; have k1 := kk.2.1; have k2 := kk.2.2.1; have k3 := kk.2.2.2; clear kk; go_simp; try (with_reducible rfl))
  try simp only [Act.put, List.setIfInBounds_toArray, List.set_cons_zero, List.set_cons_succ]
  refine Late.Goes.takeT (i := 11) (v := _) (by simp only [List.getElem?_toArray, List.getElem?_cons_succ, List.getElem?_cons_zero]; rfl) (by kernel_rfl) (by kernel_rfl) (by kernel_rfl) (by kernel_rfl) (by kernel_rfl) (by exact fun _ _ _ h => h) (yields_quota (by rfl) _ rfl s.p 2 rfl B.q1 B.q2 B.q3 (fun V hV => by rw [hV]; exact range_q (HM.out _ HB0.out.drew).blk)) hH ?_
  try simp only [Act.put, List.setIfInBounds_toArray, List.set_cons_zero, List.set_cons_succ]
  refine Late.Goes.takeT (i := 20) (v := ?_) (by simp only [List.getElem?_toArray, List.getElem?_cons_succ, List.getElem?_cons_zero]; rfl) (by kernel_rfl) (by kernel_rfl) (by kernel_rfl) (by kernel_rfl) (by kernel_rfl) (by exact fun _ _ _ h => h) (Or.inl ⟨by rfl, ?_⟩) hH ?_
  rotate_left
  · (intro wy hSw; (try dsimp only at hSw); subst hSw; have kk := HC.out _ HB0.out.drew; have k0 := kk.1; have k1 := kk.2.1; have k2 := kk.2.2.1; have k3 := kk.2.2.2; clear kk; go_simp; try (with_reducible rfl))
  try simp only [Act.put, List.setIfInBounds_toArray, List.set_cons_zero, List.set_cons_succ]
  refine Late.Goes.one (i := 21) (by kernel_rfl) (by simp only [List.getElem?_toArray, List.getElem?_cons_succ, List.getElem?_cons_zero]; rfl) (fun K hK => ?_)
  clear hH
  refine Key.wp_store_blk (by rfl) 33 _ _ rfl b2 0 (rcs (metaR B)) rfl rfl (blk_there0 (cs := rcs Rec.zero) (HX.out.but ((But.refl (fun _ => False) W).drew) (fun h => h)) (by rfl)) Rec.rec_size (rcs_one _) ?_
  have HS := Lib.hid (And.intro (blk_set0 (cs := rcs Rec.zero) (vs := rcs (metaR B)) (HX.out.but ((But.refl (fun _ => False) W).drew) (fun h => h)) (by rfl)) (HB0.out.drew.trans (but_setCells b2 (rcs (metaR B)) 0 W.drew) (fun k hk e => by have := HBL.out; omega)))
  generalize W.drew.setCells b2 0 (rcs (metaR B)) = W3 at HS ⊢
  refine hK.out _ _ ?_ (fun _ => ?_)
  · exact fun h => by cases h
  clear hK K
  try simp only [Act.put, List.setIfInBounds_toArray, List.set_cons_zero, List.set_cons_succ]
  refine Late.Goes.done (by kernel_rfl) ?_ _
  go_wp2_with fail
  refine bodyPost_ret (results_row1 rfl _ _ b2 33 (Rec.cells (metaR B)) (0, 0) _ rfl HS.out.1 Try.underlying33 rfl Rec.rec_size) rfl ?_
  exact ⟨rfl, HS.out.2⟩
/- A row of records, and what lies behind it. -/
def rcl (L : List Rcd) : List Value := L.flatMap rcs
theorem rcs_length (r : Rcd) : (rcs r).length = 14 := rfl
def RRow (w : World) (g : Nat) (L : List Rcd) (rest : List Value) : Prop := Blk w g 33 (rcl L ++ rest).toArray
theorem RRow.cell {g : Nat} {L : List Rcd} {rest : List Value} (h : RRow w g L rest) {k : Nat} (hk : k < L.length) {j : Nat} (hj : j < 14) : w.cell? ⟨g, k * 14 + j, none⟩ = (rcs L[k])[j]? := by
  have hl : (rcl L).length = L.length * 14 := flat_length rcs_length L
  have h1 : w.cell? ⟨g, k * 14 + j, none⟩ = (rcl L ++ rest).toArray[k * 14 + j]? := Blk.cell h (k * 14 + j)
  rw [h1, List.getElem?_toArray, List.getElem?_append_left (by rw [hl]; omega)]
  exact flat_get rcs_length (List.getElem?_eq_getElem hk) hj
theorem RRow.mark {g : Nat} {L : List Rcd} {rest : List Value} (h : RRow w g L rest) {k : Nat} {x : Rgt.Tok} (hk : k < L.length) (hx : L[k] = tokR 0 1 x) (id : Int) (gen : Nat) : RRow (w.setCells g (k * 14 + 1) [.int .i64 id, .int .u32 (gen : Int)]) g (L.set k (tokR id gen x)) rest := by
  have hs : L[k]? = some (tokR 0 1 x) := by rw [List.getElem?_eq_getElem hk, hx]
  have h1 : Blk w g 33 (rcl L ++ rest).toArray := h
  unfold rcl at h1
  rw [flat_split hs] at h1
  have hA : (L.take k).flatMap rcs ++ rcs (tokR 0 1 x) ++ (L.drop (k + 1)).flatMap rcs ++ rest = ((L.take k).flatMap rcs ++ [.int .i64 5]) ++ [.int .i64 0, .int .u32 1] ++ ((rcs (tokR 0 1 x)).drop 3 ++ ((L.drop (k + 1)).flatMap rcs ++ rest)) := by
    simp [rcs, tokR]
  rw [hA] at h1
  have h2 := Exp.blk_setCells (vs := [.int .i64 id, .int .u32 (gen : Int)]) h1 rfl
  have hln : ((L.take k).flatMap rcs ++ [Value.int .i64 5]).length = k * 14 + 1 := by
    rw [List.length_append, flat_length rcs_length, List.length_take, Nat.min_eq_left (by omega)]
    rfl
  rw [hln] at h2
  show Blk _ _ _ (rcl (L.set k (tokR id gen x)) ++ rest).toArray
  unfold rcl
  rw [flat_set (tokR id gen x) hk]
  have hB : (L.take k).flatMap rcs ++ rcs (tokR id gen x) ++ (L.drop (k + 1)).flatMap rcs ++ rest = ((L.take k).flatMap rcs ++ [.int .i64 5]) ++ [.int .i64 id, .int .u32 (gen : Int)] ++ ((rcs (tokR 0 1 x)).drop 3 ++ ((L.drop (k + 1)).flatMap rcs ++ rest)) := by
    simp [rcs, tokR]
  rw [hB]
  exact h2
end
end Go.Proofs.Ytgjofinbdigmcaa.Buk
