/- A request as the document's: the walk of the law's As. -/
import Derived.Test.YtbdbbnpkekcefaaCmdMem
import Derived.Test.YtbdbbnpkekcefaaCmdWalk
import Derived.Test.YtbdbbnpkekcefaaGCmdSame
namespace Go.Proofs.Ytbdbbnpkekcefaa.Cmd
open Go.Proofs.Ytbdbbnpkekcefaa.Mem Go.Proofs.Ytbdbbnpkekcefaa.Pack
open Go.ChangeShapes Go.WideShapes Go.ChangeAt Go.RowKit
set_option linter.unusedVariables false
set_option linter.unusedSimpArgs false

theorem rop_inf : (Try.prog.info? 83).map (fun i => (i.zero, i.size, i.bytes)) = some (some (.agg #[.bool false, .string ⟨#[]⟩, .string ⟨#[]⟩, .int .u64 0, .int .u64 0]), 5, 56) := by kernel_rfl
theorem own_sl {w : World} {base size n : Nat} {e : TypeId} {v : Value} {xs : List Value} (h : w.ownsRow base e size v n xs) : ∃ a c, v = .slice a n c := by
  rcases h.2 with ⟨hv, hn⟩ | ⟨g, cap, cur, hv, _⟩
  · exact ⟨none, 0, by rw [hv, hn]⟩
  · exact ⟨_, _, hv⟩
theorem sees_five (w : World) (cs : List Value) (hcs : cs.length = 5) (e : TypeId) (fr : Nat × Nat) (g : Nat) (hg : g = w.heap.size) : Sees (w.alloc (.cells cs.toArray e fr)) 5 (.slice (some ⟨g, 0, none⟩) 1 1) 1 cs := by
  subst hg
  refine .inr ⟨_, _, rfl, by simp [hcs], fun j x hx => ?_⟩
  refine ⟨by simp, ?_⟩
  rw [add_none, Nat.zero_add, World.cell?_alloc_mark]
  simpa using hx
/- The argument's block, the result's, the variable's, beside a row that grows. -/
structure AsAt (w0 : World) (A R B base : Nat) (ca za cb : Array Value) (w : World) : Prop where
  arg : Blk w A 32 ca
  res : Blk w R 39 za
  box : Blk w B 39 cb
  but : But (fun _ => False) w0 w
  size : base ≤ w.heap.size
  lts : A < base ∧ R < base ∧ B < base ∧ A ≠ B ∧ R ≠ B ∧ w0.heap.size ≤ A ∧ w0.heap.size ≤ R ∧ w0.heap.size ≤ B
section
variable {w0 w w' : World} {A R B base : Nat} {ca za cb cb' : Array Value} {S : Nat → Prop}
theorem AsAt.grow (h : AsAt w0 A R B base ca za cb w) (hb : But S w w') (hS : ∀ k, S k → base ≤ k) : AsAt w0 A R B base ca za cb w' :=
  ⟨h.arg.but hb (fun e => by have := hS _ e; have := h.lts; omega), h.res.but hb (fun e => by have := hS _ e; have := h.lts; omega), h.box.but hb (fun e => by have := hS _ e; have := h.lts; omega),
   h.but.trans hb (fun i hi e => by have := hS _ e; have := h.lts; omega), Nat.le_trans h.size hb.size, h.lts⟩
theorem AsAt.set (h : AsAt w0 A R B base ca za cb w) (i : Nat) (u : Value) (hc : cb.setIfInBounds i u = cb') : AsAt w0 A R B base ca za cb' (w.setCell ⟨B, i, none⟩ u) := by
  have k : But (fun k => k = B) w (w.setCell ⟨B, i, none⟩ u) := (But.refl (fun k => k = B) w).setCell (p := ⟨B, i, none⟩) rfl u
  have l := h.lts
  exact ⟨h.arg.but k (by omega), h.res.but k (by omega), hc ▸ h.box.set_ i u, h.but.trans k (fun j hj e => by omega), Nat.le_trans h.size k.size, h.lts⟩
end
def AsIs (q : Rq) (w : World) (e : Ending) (w' : World) : Prop := ∃ sv, e = .returned (rv q sv) ∧ OpsAt w' sv q.ops ∧ But (fun _ => False) w w'
set_option maxRecDepth 100000 in
set_option maxHeartbeats 8000000 in
theorem as_any (q : Rq) (sv : Value) (w : World) (hops : OpsAt w sv q.ops) (hl : q.ops.length ≤ 1000) : Calls Try.prog 11 #[rv q sv] w fun e w' => AsIs q w e w' := by
  obtain ⟨i0, hi0, hz0, hz1, hz2⟩ := info_parts rop_inf
  obtain ⟨tag, admin, bucket, ⟨qk, qb, qg⟩, ⟨tb, tg, ts, tx⟩, ops, after, first, count, rights, serial⟩ := q
  have hops : OpsAt w sv ops := hops
  have hl : ops.length ≤ 1000 := hl
  obtain ⟨a, cap, rfl, hx⟩ := hops
  have HX := Lib.hid hx
  unfold AsIs
  simp only [rv, rcells]
  clear hx
  have h0 : AsAt w w.heap.size (w.heap.size + 1) (w.heap.size + 2) (w.heap.size + 3) #[.int .i64 tag, .int .u64 (admin : Int), .int .i64 bucket, .int .i64 qk, .int .i64 qb, .int .i64 qg, .int .i64 tb, .int .u32 (tg : Int), .int .u32 (ts : Int), .int .u64 (tx : Int), .slice a ops.length cap, .string after, .bool first, .int .i64 count, .int .i64 rights, .int .u32 (serial : Int)] #[.int .i64 0, .int .u64 0, .int .i64 0, .int .i64 0, .int .i64 0, .int .i64 0, .int .i64 0, .int .u32 0, .int .u32 0, .int .u64 0, .slice none 0 0, .string ⟨#[]⟩, .bool false, .int .i64 0, .int .i64 0, .int .u32 0] #[.int .i64 tag, .int .u64 (admin : Int), .int .i64 bucket, .int .i64 qk, .int .i64 qb, .int .i64 qg, .int .i64 tb, .int .u32 (tg : Int), .int .u32 (ts : Int), .int .u64 (tx : Int), .slice none 0 0, .string after, .bool first, .int .i64 count, .int .i64 rights, .int .u32 (serial : Int)] (((w.alloc (.cells #[.int .i64 tag, .int .u64 (admin : Int), .int .i64 bucket, .int .i64 qk, .int .i64 qb, .int .i64 qg, .int .i64 tb, .int .u32 (tg : Int), .int .u32 (ts : Int), .int .u64 (tx : Int), .slice a ops.length cap, .string after, .bool first, .int .i64 count, .int .i64 rights, .int .u32 (serial : Int)] 32)).alloc (.cells #[.int .i64 0, .int .u64 0, .int .i64 0, .int .i64 0, .int .i64 0, .int .i64 0, .int .i64 0, .int .u32 0, .int .u32 0, .int .u64 0, .slice none 0 0, .string ⟨#[]⟩, .bool false, .int .i64 0, .int .i64 0, .int .u32 0] 39)).alloc (.cells #[.int .i64 tag, .int .u64 (admin : Int), .int .i64 bucket, .int .i64 qk, .int .i64 qb, .int .i64 qg, .int .i64 tb, .int .u32 (tg : Int), .int .u32 (ts : Int), .int .u64 (tx : Int), .slice none 0 0, .string after, .bool first, .int .i64 count, .int .i64 rights, .int .u32 (serial : Int)] 39)) := by
    have b1 : But (fun _ => False) w (w.alloc (.cells #[.int .i64 tag, .int .u64 (admin : Int), .int .i64 bucket, .int .i64 qk, .int .i64 qb, .int .i64 qg, .int .i64 tb, .int .u32 (tg : Int), .int .u32 (ts : Int), .int .u64 (tx : Int), .slice a ops.length cap, .string after, .bool first, .int .i64 count, .int .i64 rights, .int .u32 (serial : Int)] 32)) := (But.refl _ w).alloc _
    have h1 : Blk (w.alloc (.cells #[.int .i64 tag, .int .u64 (admin : Int), .int .i64 bucket, .int .i64 qk, .int .i64 qb, .int .i64 qg, .int .i64 tb, .int .u32 (tg : Int), .int .u32 (ts : Int), .int .u64 (tx : Int), .slice a ops.length cap, .string after, .bool first, .int .i64 count, .int .i64 rights, .int .u32 (serial : Int)] 32)) w.heap.size 32 #[.int .i64 tag, .int .u64 (admin : Int), .int .i64 bucket, .int .i64 qk, .int .i64 qb, .int .i64 qg, .int .i64 tb, .int .u32 (tg : Int), .int .u32 (ts : Int), .int .u64 (tx : Int), .slice a ops.length cap, .string after, .bool first, .int .i64 count, .int .i64 rights, .int .u32 (serial : Int)] := Blk.new _ _ _
    obtain ⟨w1, hw1⟩ : ∃ x, x = w.alloc (.cells #[.int .i64 tag, .int .u64 (admin : Int), .int .i64 bucket, .int .i64 qk, .int .i64 qb, .int .i64 qg, .int .i64 tb, .int .u32 (tg : Int), .int .u32 (ts : Int), .int .u64 (tx : Int), .slice a ops.length cap, .string after, .bool first, .int .i64 count, .int .i64 rights, .int .u32 (serial : Int)] 32) := ⟨_, rfl⟩
    rw [← hw1] at b1 h1 ⊢
    have s1 : w1.heap.size = w.heap.size + 1 := by rw [hw1]; simp
    obtain ⟨h2, h3⟩ := Blk.two w1 #[.int .i64 0, .int .u64 0, .int .i64 0, .int .i64 0, .int .i64 0, .int .i64 0, .int .i64 0, .int .u32 0, .int .u32 0, .int .u64 0, .slice none 0 0, .string ⟨#[]⟩, .bool false, .int .i64 0, .int .i64 0, .int .u32 0] #[.int .i64 tag, .int .u64 (admin : Int), .int .i64 bucket, .int .i64 qk, .int .i64 qb, .int .i64 qg, .int .i64 tb, .int .u32 (tg : Int), .int .u32 (ts : Int), .int .u64 (tx : Int), .slice none 0 0, .string after, .bool first, .int .i64 count, .int .i64 rights, .int .u32 (serial : Int)] 39 39
    have b2 : But (fun _ => False) w1 ((w1.alloc (.cells #[.int .i64 0, .int .u64 0, .int .i64 0, .int .i64 0, .int .i64 0, .int .i64 0, .int .i64 0, .int .u32 0, .int .u32 0, .int .u64 0, .slice none 0 0, .string ⟨#[]⟩, .bool false, .int .i64 0, .int .i64 0, .int .u32 0] 39)).alloc (.cells #[.int .i64 tag, .int .u64 (admin : Int), .int .i64 bucket, .int .i64 qk, .int .i64 qb, .int .i64 qg, .int .i64 tb, .int .u32 (tg : Int), .int .u32 (ts : Int), .int .u64 (tx : Int), .slice none 0 0, .string after, .bool first, .int .i64 count, .int .i64 rights, .int .u32 (serial : Int)] 39)) := ((But.refl _ w1).alloc _).alloc _
    rw [s1] at h2 h3
    exact ⟨h1.but b2 (fun e => e), h2, h3, b1.trans b2 (fun _ _ e => e), by simp; omega, by omega⟩
  have H0 := Lib.hid h0
  clear h0
  go_enter Try.func11, Try.ntmps11
  go_wp2_with fail
  go_loopw [4, 5] (fun i x wr => ∃ (k : Nat) (va : Option Addr) (vc : Nat), i = .int .i64 (k : Int) ∧ k ≤ ops.length ∧ AsAt w w.heap.size (w.heap.size + 1) (w.heap.size + 2) (w.heap.size + 3) #[.int .i64 tag, .int .u64 (admin : Int), .int .i64 bucket, .int .i64 qk, .int .i64 qb, .int .i64 qg, .int .i64 tb, .int .u32 (tg : Int), .int .u32 (ts : Int), .int .u64 (tx : Int), .slice a ops.length cap, .string after, .bool first, .int .i64 count, .int .i64 rights, .int .u32 (serial : Int)] #[.int .i64 0, .int .u64 0, .int .i64 0, .int .i64 0, .int .i64 0, .int .i64 0, .int .i64 0, .int .u32 0, .int .u32 0, .int .u64 0, .slice none 0 0, .string ⟨#[]⟩, .bool false, .int .i64 0, .int .i64 0, .int .u32 0] #[.int .i64 tag, .int .u64 (admin : Int), .int .i64 bucket, .int .i64 qk, .int .i64 qb, .int .i64 qg, .int .i64 tb, .int .u32 (tg : Int), .int .u32 (ts : Int), .int .u64 (tx : Int), .slice va k vc, .string after, .bool first, .int .i64 count, .int .i64 rights, .int .u32 (serial : Int)] wr ∧ wr.ownsRow (w.heap.size + 3) 83 5 (.slice va k vc) k ((ops.take k).flatMap ocells)) (fun i _ _ => ops.length - (intOf i).toNat)
  case atStart => exact ⟨0, none, 0, rfl, Nat.zero_le _, H0.out, World.ownsRow_nil _ _ _ _⟩
  case round =>
    obtain ⟨k, va, vc, rfl, hk, hA, ho⟩ := hrel
    have x10 : wr.cell? ⟨w.heap.size, 10, none⟩ = some (.slice a ops.length cap) := (hA.arg.cell 10).trans rfl
    have HA := Lib.hid hA
    have HO := Lib.hid ho
    clear hA ho H0
    by_cases hlt : k < ops.length
    · obtain ⟨b, off, rfl, hblt, hc⟩ := HX.out (by omega)
      obtain ⟨o, hoe⟩ : ∃ o, o = ops[k] := ⟨_, rfl⟩
      have hcr : ∀ i (h : i < ops.length) j u, (ocells ops[i])[j]? = some u → wr.cell? ⟨b, off + i * 5 + j, none⟩ = some u := fun i hi j u hu => (HA.out.but.cell (p := ⟨b, off + i * 5 + j, none⟩) hblt (fun e => e)).trans (hc i hi j u hu)
      obtain ⟨e0, e1, e2, e3, e4⟩ := OpsAt.cells hcr hlt hoe
      have HOE := Lib.hid hoe
      have hg1 := HA.out.grow (But.alloc (But.refl (fun _ => False) wr) (.cells #[.bool o.del, .string o.key, .string o.val, .int .u64 (o.cond : Int), .int .u64 (o.ttl : Int)] 87)) (fun _ e => e.elim)
      have hg2 := HA.out.grow (But.alloc (But.alloc (But.refl (fun _ => False) wr) (.cells #[.bool o.del, .string o.key, .string o.val, .int .u64 (o.cond : Int), .int .u64 (o.ttl : Int)] 87)) (.cells #[.bool o.del, .string o.key, .string o.val, .int .u64 (o.cond : Int), .int .u64 (o.ttl : Int)] 83)) (fun _ e => e.elim)
      have y10 : World.cell? _ ⟨(w.heap.size + 2), 10, none⟩ = some (.slice va k vc) := (hg1.box.cell 10).trans rfl
      have hsz : (w.heap.size + 3) ≤ wr.heap.size := HA.out.size
      clear hoe hc hcr hg1 hg2
      go_wp2_with (at_builtin; refine wpList_append_onto rfl (.tmp 40) (.tmp 52) _ rfl (w.heap.size + 3) 83 i0 _ 5 56 Try.underlying37 hi0 hz0 hz1 hz2 rfl (by omega) (.slice va k vc) k ((ops.take k).flatMap ocells) rfl (ownsRow_alloc (ownsRow_alloc HO.out _) _) (.slice (some ⟨wr.heap.size + 1, 0, none⟩) 1 1) 1 (ocells o) rfl (sees_five _ (ocells o) rfl _ _ _ (by simp)) (ocells_one o) (by simp only [maxLen]; omega) (by omega) (by simp; omega) ?_; intro v5 w5 ho5 hon5; obtain ⟨a5, c5, hv5⟩ := own_sl ho5; subst hv5; have hon := (hon5.of_alloc (fun j hj => by have := (HO.out.lt j hj).2; simp; omega)).of_alloc (fun j hj => (HO.out.lt j hj).2); have hs5 := HA.out.grow hon.but (fun j e => (HO.out.lt j e.symm).1); have c10 : w5.cell? ⟨(w.heap.size + 2), 10, none⟩ = some (.slice va k vc) := (hs5.box.cell 10).trans rfl; have f10 : w5.frozen? ⟨(w.heap.size + 2), 10, none⟩ = false := hs5.box.frozen 10)
      have hs6 := hs5.set 10 (.slice a5 (k + 1) c5) (cb' := #[.int .i64 tag, .int .u64 (admin : Int), .int .i64 bucket, .int .i64 qk, .int .i64 qb, .int .i64 qg, .int .i64 tb, .int .u32 (tg : Int), .int .u32 (ts : Int), .int .u64 (tx : Int), .slice a5 (k + 1) c5, .string after, .bool first, .int .i64 count, .int .i64 rights, .int .u32 (serial : Int)]) rfl
      have hsn : (ops.take (k + 1)).flatMap ocells = (ops.take k).flatMap ocells ++ ocells o := by
        rw [List.take_succ_eq_append_getElem hlt, List.flatMap_append, HOE.out]; simp
      have ho6 : World.ownsRow (w5.setCell ⟨(w.heap.size + 2), 10, none⟩ (.slice a5 (k + 1) c5)) (w.heap.size + 3) 83 5 (.slice a5 (k + 1) c5) (k + 1) ((ops.take (k + 1)).flatMap ocells) := by
        refine ownsRow_but (S := fun j => j = (w.heap.size + 2)) ?_ ((But.refl (fun j => j = (w.heap.size + 2)) w5).setCell (p := ⟨(w.heap.size + 2), 10, none⟩) rfl _) (fun j hj e => by have := (ho5.lt j hj).1; omega)
        rw [hsn]
        exact ho5
      have HF := Lib.hid (And.intro hs6 ho6)
      clear hs5 hs6 hsn ho5 hon5 hon ho6 x10 y10 c10 f10 e0 e1 e2 e3 e4
      go_roundw
      case rel => exact ⟨k + 1, a5, c5, by go_num, by omega, HF.out⟩
      case measure => simp [intOf]; omega
    · have hkl : k = ops.length := by omega
      subst hkl
      have hall : ops.take ops.length = ops := List.take_of_length_le (Nat.le_refl _)
      have hof := opsFrom_of_own (l := ops) (by have := HO.out; rw [hall] at this; exact this)
      have hone : (#[.int .i64 tag, .int .u64 (admin : Int), .int .i64 bucket, .int .i64 qk, .int .i64 qb, .int .i64 qg, .int .i64 tb, .int .u32 (tg : Int), .int .u32 (ts : Int), .int .u64 (tx : Int), .slice va ops.length vc, .string after, .bool first, .int .i64 count, .int .i64 rights, .int .u32 (serial : Int)] : Array Value).all (fun x => x.oneCell') = true := by simp [Value.oneCell']
      have HONE := Lib.hid hone
      have HBX := Lib.hid (show _ = _ from HA.out.box)
      have HRX := Lib.hid (show _ = _ from HA.out.res)
      have HOLD := Lib.hid (show (#[.int .i64 0, .int .u64 0, .int .i64 0, .int .i64 0, .int .i64 0, .int .i64 0, .int .i64 0, .int .u32 0, .int .u32 0, .int .u64 0, .slice none 0 0, .string ⟨#[]⟩, .bool false, .int .i64 0, .int .i64 0, .int .u32 0] : Array Value).size = (#[.int .i64 tag, .int .u64 (admin : Int), .int .i64 bucket, .int .i64 qk, .int .i64 qb, .int .i64 qg, .int .i64 tb, .int .u32 (tg : Int), .int .u32 (ts : Int), .int .u64 (tx : Int), .slice va ops.length vc, .string after, .bool first, .int .i64 count, .int .i64 rights, .int .u32 (serial : Int)] : Array Value).size by simp)
      have HSZ := Lib.hid (ref_size.trans (show some 16 = some (#[.int .i64 tag, .int .u64 (admin : Int), .int .i64 bucket, .int .i64 qk, .int .i64 qb, .int .i64 qg, .int .i64 tb, .int .u32 (tg : Int), .int .u32 (ts : Int), .int .u64 (tx : Int), .slice va ops.length vc, .string after, .bool first, .int .i64 count, .int .i64 rights, .int .u32 (serial : Int)] : Array Value).size by simp))
      have hbr := but_setRow (fun j => j = (w.heap.size + 1)) (But.refl _ wr) (.inl rfl) #[.int .i64 tag, .int .u64 (admin : Int), .int .i64 bucket, .int .i64 qk, .int .i64 qb, .int .i64 qg, .int .i64 tb, .int .u32 (tg : Int), .int .u32 (ts : Int), .int .u64 (tx : Int), .slice va ops.length vc, .string after, .bool first, .int .i64 count, .int .i64 rights, .int .u32 (serial : Int)]
      have HF := Lib.hid (And.intro (hof.but hbr (fun j h1 _ e => by omega)).at_ (HA.out.but.trans hbr (fun j hj e => by omega)))
      clear hone hof hbr hall hlt hk
      go_wp2_with (first
        | (refine wpList_load_row rfl 39 _ rfl (w.heap.size + 2) rfl 39 _ (0, 0) _ HBX.out Try.underlying39 rfl HSZ.out ?_)
        | (refine wpList_store_rowTo rfl 39 _ _ rfl rfl (w.heap.size + 1) #[.int .i64 tag, .int .u64 (admin : Int), .int .i64 bucket, .int .i64 qk, .int .i64 qb, .int .i64 qg, .int .i64 tb, .int .u32 (tg : Int), .int .u32 (ts : Int), .int .u64 (tx : Int), .slice va ops.length vc, .string after, .bool first, .int .i64 count, .int .i64 rights, .int .u32 (serial : Int)] rfl rfl 39 #[.int .i64 0, .int .u64 0, .int .i64 0, .int .i64 0, .int .i64 0, .int .i64 0, .int .i64 0, .int .u32 0, .int .u32 0, .int .u64 0, .slice none 0 0, .string ⟨#[]⟩, .bool false, .int .i64 0, .int .i64 0, .int .u32 0] HRX.out HSZ.out HOLD.out HONE.out ?_))
      refine bodyPost_ret (results_cell_row rfl _ _ (w.heap.size + 1) 39 #[.int .i64 tag, .int .u64 (admin : Int), .int .i64 bucket, .int .i64 qk, .int .i64 qb, .int .i64 qg, .int .i64 tb, .int .u32 (tg : Int), .int .u32 (ts : Int), .int .u64 (tx : Int), .slice va ops.length vc, .string after, .bool first, .int .i64 count, .int .i64 rights, .int .u32 (serial : Int)] (0, 0) _ rfl (setRow_heap _ _ _ _ _ _ HRX.out) Try.underlying39 rfl HSZ.out) rfl ?_
      exact ⟨_, rfl, HF.out⟩
end Go.Proofs.Ytbdbbnpkekcefaa.Cmd
