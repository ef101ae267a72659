/- A response as the document's: the walk of the law's Told. -/
import Derived.Test.YtbdbbnpkekcefaaGCmdREnc
import Derived.Test.YtbdbbnpkekcefaaCmdNextOps
import Derived.Test.YtbdbbnpkekcefaaLate
namespace Go.Proofs.Ytbdbbnpkekcefaa.Cmd
open Go.Proofs.Ytbdbbnpkekcefaa.Mem Go.Proofs.Ytbdbbnpkekcefaa.Pack
open Go.ChangeShapes Go.WideShapes Go.ChangeAt Go.RowKit
set_option linter.unusedVariables false
set_option linter.unusedSimpArgs false

theorem rpair_inf : (Try.prog.info? 94).map (fun i => (i.zero, i.size, i.bytes)) = some (some (.agg #[.string ⟨#[]⟩, .string ⟨#[]⟩]), 2, 32) := by kernel_rfl
theorem rresp_size : (Try.prog.info? 63).map (·.size) = some 11 := by kernel_rfl
theorem own_slt {w : World} {base size n : Nat} {e : TypeId} {v : Value} {xs : List Value} (h : w.ownsRow base e size v n xs) : ∃ a c, v = .slice a n c := by
  rcases h.2 with ⟨hv, hn⟩ | ⟨g, cap, cur, hv, _⟩
  · exact ⟨none, 0, by rw [hv, hn]⟩
  · exact ⟨_, _, hv⟩
/- The argument's block, the result's, the counts', the variable's, beside a row that grows. -/
structure TdAt (w0 : World) (A R D X base : Nat) (ca za cd cb : Array Value) (w : World) : Prop where
  arg : Blk w A 49 ca
  res : Blk w R 63 za
  st : Blk w D 24 cd
  box : Blk w X 63 cb
  but : But (fun _ => False) w0 w
  size : base ≤ w.heap.size
  lts : A < base ∧ R < base ∧ D < base ∧ X < base ∧ A ≠ X ∧ R ≠ X ∧ D ≠ X ∧ w0.heap.size ≤ A ∧ w0.heap.size ≤ R ∧ w0.heap.size ≤ D ∧ w0.heap.size ≤ X
section
variable {w0 w w' : World} {A R D X base : Nat} {ca za cd cb cb' : Array Value} {S : Nat → Prop}
theorem TdAt.grow (h : TdAt w0 A R D X base ca za cd cb w) (hb : But S w w') (hS : ∀ k, S k → base ≤ k) : TdAt w0 A R D X base ca za cd cb w' :=
  ⟨h.arg.but hb (fun e => by have := hS _ e; have := h.lts; omega), h.res.but hb (fun e => by have := hS _ e; have := h.lts; omega), h.st.but hb (fun e => by have := hS _ e; have := h.lts; omega), h.box.but hb (fun e => by have := hS _ e; have := h.lts; omega),
   h.but.trans hb (fun i hi e => by have := hS _ e; have := h.lts; omega), Nat.le_trans h.size hb.size, h.lts⟩
theorem TdAt.same (h : TdAt w0 A R D X base ca za cd cb w) (hb : But (fun _ => False) w w') : TdAt w0 A R D X base ca za cd cb w' := h.grow hb (fun _ e => e.elim)
theorem TdAt.set (h : TdAt w0 A R D X base ca za cd cb w) (i : Nat) (u : Value) (hc : cb.setIfInBounds i u = cb') : TdAt w0 A R D X base ca za cd cb' (w.setCell ⟨X, i, none⟩ u) := by
  have k : But (fun k => k = X) w (w.setCell ⟨X, i, none⟩ u) := (But.refl (fun k => k = X) w).setCell (p := ⟨X, i, none⟩) rfl u
  have l := h.lts
  exact ⟨h.arg.but k (by omega), h.res.but k (by omega), h.st.but k (by omega), hc ▸ h.box.set_ i u, h.but.trans k (fun j hj e => by omega), Nat.le_trans h.size k.size, h.lts⟩
end
theorem td_start (w : World) (ca za cd cb : Array Value) : TdAt w w.heap.size (w.heap.size + 1) (w.heap.size + 2) (w.heap.size + 3) (w.heap.size + 4) ca za cd cb ((((w.alloc (.cells ca 49)).alloc (.cells za 63)).alloc (.cells cd 24)).alloc (.cells cb 63)) := by
  have h1 : Blk (w.alloc (.cells ca 49)) w.heap.size 49 ca := Blk.new _ _ _
  have b1 : But (fun _ => False) w (w.alloc (.cells ca 49)) := (But.refl _ w).alloc _
  obtain ⟨w1, hw1⟩ : ∃ x, x = w.alloc (.cells ca 49) := ⟨_, rfl⟩
  rw [← hw1] at h1 b1 ⊢
  have s1 : w1.heap.size = w.heap.size + 1 := by rw [hw1]; simp
  have h2 : Blk (w1.alloc (.cells za 63)) w1.heap.size 63 za := Blk.new _ _ _
  have b2 : But (fun _ => False) w1 (w1.alloc (.cells za 63)) := (But.refl _ w1).alloc _
  obtain ⟨w2, hw2⟩ : ∃ x, x = w1.alloc (.cells za 63) := ⟨_, rfl⟩
  rw [← hw2] at h2 b2 ⊢
  have s2 : w2.heap.size = w1.heap.size + 1 := by rw [hw2]; simp
  obtain ⟨h3, h4⟩ := Blk.two w2 cd cb 24 63
  have b3 : But (fun _ => False) w2 ((w2.alloc (.cells cd 24)).alloc (.cells cb 63)) := ((But.refl _ w2).alloc _).alloc _
  rw [show w2.heap.size = w.heap.size + 2 by omega] at h3 h4
  rw [s1] at h2
  have b23 := b2.trans b3 (fun _ _ e => e)
  exact ⟨h1.but b23 (fun e => e), h2.but b3 (fun e => e), h3, h4, b1.trans b23 (fun _ _ e => e), by simp; omega, by omega⟩
theorem stat_shows {w : World} {B : Nat} {r : Rs} (h : Blk w B 24 #[.int .u64 ((u64 r.keys : Nat) : Int), .int .u64 ((u64 r.bytes : Nat) : Int), .int .u64 ((u64 r.charged : Nat) : Int), .int .u64 (r.seq : Int)]) : ShowsFrom ucells 1 B w (.slice (some ⟨B, 0, none⟩) 4 4) (statOf r) := by
  refine ⟨_, 4, rfl, fun _ => ⟨B, 0, rfl, Nat.le_refl _, h.lt, fun i hi j u hu => ?_⟩⟩
  have hj : j = 0 := by
    have := (List.getElem?_eq_some_iff.1 hu).1
    simp [ucells] at this; omega
  subst hj
  have hi4 : i < 4 := hi
  rw [show (0 + i * 1 + 0) = i by omega, h.cell i]
  rcases i with _ | _ | _ | _ | i
  · exact hu
  · exact hu
  · exact hu
  · exact hu
  · omega
def ToldIs (r : Rs) (w : World) (e : Ending) (w' : World) : Prop := ∃ pv' sv' bv', e = .returned (rrv r pv' sv' bv') ∧ ShowsFrom pcells 2 0 w' pv' r.page ∧ ShowsFrom ucells 1 0 w' sv' (statOf r) ∧ ShowsFrom icells 1 0 w' bv' r.buckets ∧ But (fun _ => False) w w'
set_option maxRecDepth 100000 in
set_option maxHeartbeats 8000000 in
theorem told_any (r : Rs) (pv bv : Value) (w : World) (hp : ShowsFrom pcells 2 0 w pv r.page) (hb : ShowsFrom icells 1 0 w bv r.buckets) (hl : r.page.length ≤ 1000) (hsq : r.seq < 18446744073709551616) : Calls Try.prog 17 #[rsv r pv bv] w fun e w' => ToldIs r w e w' := by
  obtain ⟨i0, hi0, hz0, hz1, hz2⟩ := info_parts rpair_inf
  obtain ⟨code, ⟨tb, tg, ts, tx⟩, ver, val, page, more, keys, bytes, charged, seq, buckets⟩ := r
  have hl : page.length ≤ 1000 := hl
  have HB := Lib.hid hb
  obtain ⟨pa, pc, rfl, hpx⟩ := hp
  obtain ⟨ba, bc, rfl, -⟩ := hb
  have HX := Lib.hid hpx
  unfold ToldIs
  simp only [rsv, scells]
  clear hpx
  have hk1 := wrap_u64 keys
  have hk2 := wrap_u64 bytes
  have hk3 := wrap_u64 charged
  have H0 := Lib.hid (td_start w #[.int .i64 code, .int .i64 tb, .int .u32 (tg : Int), .int .u32 (ts : Int), .int .u64 (tx : Int), .int .u64 (ver : Int), .string val, .slice pa page.length pc, .bool more, .int .i64 keys, .int .i64 bytes, .int .i64 charged, .int .u64 (seq : Int), .slice ba buckets.length bc] #[.int .i64 0, .int .i64 0, .int .u32 0, .int .u32 0, .int .u64 0, .int .u64 0, .string ⟨#[]⟩, .slice none 0 0, .bool false, .slice none 0 0, .slice none 0 0] #[.int .u64 ((u64 keys : Nat) : Int), .int .u64 ((u64 bytes : Nat) : Int), .int .u64 ((u64 charged : Nat) : Int), .int .u64 (seq : Int)] #[.int .i64 code, .int .i64 tb, .int .u32 (tg : Int), .int .u32 (ts : Int), .int .u64 (tx : Int), .int .u64 (ver : Int), .string val, .slice none 0 0, .bool more, .slice (some ⟨w.heap.size + 2, 0, none⟩) 4 4, .slice ba buckets.length bc])
  go_enter Try.func17, Try.ntmps17
  go_wp2_with fail
  go_loopw [4] (fun i wr => ∃ (k : Nat) (va : Option Addr) (vc : Nat), i = .int .i64 (k : Int) ∧ k ≤ page.length ∧ TdAt w w.heap.size (w.heap.size + 1) (w.heap.size + 2) (w.heap.size + 3) (w.heap.size + 4) #[.int .i64 code, .int .i64 tb, .int .u32 (tg : Int), .int .u32 (ts : Int), .int .u64 (tx : Int), .int .u64 (ver : Int), .string val, .slice pa page.length pc, .bool more, .int .i64 keys, .int .i64 bytes, .int .i64 charged, .int .u64 (seq : Int), .slice ba buckets.length bc] #[.int .i64 0, .int .i64 0, .int .u32 0, .int .u32 0, .int .u64 0, .int .u64 0, .string ⟨#[]⟩, .slice none 0 0, .bool false, .slice none 0 0, .slice none 0 0] #[.int .u64 ((u64 keys : Nat) : Int), .int .u64 ((u64 bytes : Nat) : Int), .int .u64 ((u64 charged : Nat) : Int), .int .u64 (seq : Int)] #[.int .i64 code, .int .i64 tb, .int .u32 (tg : Int), .int .u32 (ts : Int), .int .u64 (tx : Int), .int .u64 (ver : Int), .string val, .slice va k vc, .bool more, .slice (some ⟨w.heap.size + 2, 0, none⟩) 4 4, .slice ba buckets.length bc] wr ∧ wr.ownsRow (w.heap.size + 4) 94 2 (.slice va k vc) k ((page.take k).flatMap pcells)) (fun i _ => page.length - (intOf i).toNat)
  case atStart => exact ⟨0, none, 0, rfl, Nat.zero_le _, H0.out, World.ownsRow_nil _ _ _ _⟩
  case round =>
    obtain ⟨k, va, vc, rfl, hk, hA, ho⟩ := hrel
    have x7 : wr.cell? ⟨w.heap.size, 7, none⟩ = some (.slice pa page.length pc) := (hA.arg.cell 7).trans rfl
    have HA := Lib.hid (hA.same ((But.refl (fun _ => False) wr).drew))
    have HO := Lib.hid (ownsRow_but ho ((But.refl (fun _ => False) wr).drew) (fun _ _ e => e))
    clear H0
    by_cases hlt : k < page.length
    · obtain ⟨b, off, rfl, -, hblt, hc⟩ := HX.out (by omega)
      obtain ⟨⟨x1, x2⟩, hxe⟩ : ∃ x, x = page[k] := ⟨_, rfl⟩
      have hd : But (fun _ => False) w wr.drew := HA.out.but
      have HC := Lib.hid (show wr.drew.cell? ⟨(w.heap.size + 3), 7, none⟩ = some (.slice va k vc) ∧ wr.drew.cell? ⟨w.heap.size, 7, none⟩ = some (.slice (some ⟨b, off, none⟩) page.length pc) ∧ wr.drew.cell? ⟨b, off + k * 2, none⟩ = some (.string x1) ∧ wr.drew.cell? ⟨b, off + k * 2 + 1, none⟩ = some (.string x2) from
        ⟨(HA.out.box.cell 7).trans rfl, (HA.out.arg.cell 7).trans rfl, (hd.cell (p := ⟨b, off + k * 2, none⟩) hblt (fun e => e)).trans (hc k hlt 0 _ (by rw [← hxe]; rfl)), (hd.cell (p := ⟨b, off + k * 2 + 1, none⟩) hblt (fun e => e)).trans (hc k hlt 1 _ (by rw [← hxe]; rfl))⟩)
      have HXE := Lib.hid hxe
      have hbs : (w.heap.size + 4) ≤ wr.drew.heap.size := HA.out.size
      clear hxe hc hd hA ho
      go_wp2_with fail
      clear x7
      refine Late.region_goes (fun V => V.cell? ⟨(w.heap.size + 3), 7, none⟩ = some (.slice va k vc) ∧ V.cell? ⟨w.heap.size, 7, none⟩ = some (.slice (some ⟨b, off, none⟩) page.length pc) ∧ V.cell? ⟨b, off + k * 2, none⟩ = some (.string x1) ∧ V.cell? ⟨b, off + k * 2 + 1, none⟩ = some (.string x2)) (fun j => j == 18) (by kernel_rfl) ?_ (fun hH => ?_)
      · exact HC.out
      refine Late.Goes.takeT (i := 0) (v := ?_) (by simp only [List.getElem?_toArray, List.getElem?_cons_succ, List.getElem?_cons_zero]; rfl) (by kernel_rfl) (by kernel_rfl) (by kernel_rfl) (by kernel_rfl) (by kernel_rfl) (by exact fun _ _ _ h => h) (Or.inl ⟨by rfl, ?_⟩) hH ?_
      rotate_left
      · (intro wy hSw; (try dsimp only at hSw); have y0 := hSw.1; have y1 := hSw.2.1; have y2 := hSw.2.2.1; have y3 := hSw.2.2.2; go_simp; try (with_reducible rfl))
      try simp only [Act.put, List.setIfInBounds_toArray, List.set_cons_zero, List.set_cons_succ]
      refine Late.Goes.takeT (i := 1) (v := ?_) (by simp only [List.getElem?_toArray, List.getElem?_cons_succ, List.getElem?_cons_zero]; rfl) (by kernel_rfl) (by kernel_rfl) (by kernel_rfl) (by kernel_rfl) (by kernel_rfl) (by exact fun _ _ _ h => h) (Or.inl ⟨by rfl, ?_⟩) hH ?_
      rotate_left
      · (intro wy hSw; (try dsimp only at hSw); have y0 := hSw.1; have y1 := hSw.2.1; have y2 := hSw.2.2.1; have y3 := hSw.2.2.2; go_simp; try (with_reducible rfl))
      try simp only [Act.put, List.setIfInBounds_toArray, List.set_cons_zero, List.set_cons_succ]
      refine Late.Goes.takeT (i := 2) (v := ?_) (by simp only [List.getElem?_toArray, List.getElem?_cons_succ, List.getElem?_cons_zero]; rfl) (by kernel_rfl) (by kernel_rfl) (by kernel_rfl) (by kernel_rfl) (by kernel_rfl) (by exact fun _ _ _ h => h) (Or.inl ⟨by rfl, ?_⟩) hH ?_
      rotate_left
      · (intro wy hSw; (try dsimp only at hSw); have y0 := hSw.1; have y1 := hSw.2.1; have y2 := hSw.2.2.1; have y3 := hSw.2.2.2; go_simp; try (with_reducible rfl))
      try simp only [Act.put, List.setIfInBounds_toArray, List.set_cons_zero, List.set_cons_succ]
      refine Late.Goes.takeT (i := 3) (v := ?_) (by simp only [List.getElem?_toArray, List.getElem?_cons_succ, List.getElem?_cons_zero]; rfl) (by kernel_rfl) (by kernel_rfl) (by kernel_rfl) (by kernel_rfl) (by kernel_rfl) (by exact fun _ _ _ h => h) (Or.inl ⟨by rfl, ?_⟩) hH ?_
      rotate_left
      · (intro wy hSw; (try dsimp only at hSw); have y0 := hSw.1; have y1 := hSw.2.1; have y2 := hSw.2.2.1; have y3 := hSw.2.2.2; go_simp; try (with_reducible rfl))
      try simp only [Act.put, List.setIfInBounds_toArray, List.set_cons_zero, List.set_cons_succ]
      refine Late.Goes.takeT (i := 4) (v := ?_) (by simp only [List.getElem?_toArray, List.getElem?_cons_succ, List.getElem?_cons_zero]; rfl) (by kernel_rfl) (by kernel_rfl) (by kernel_rfl) (by kernel_rfl) (by kernel_rfl) (by exact fun _ _ _ h => h) (Or.inl ⟨by rfl, ?_⟩) hH ?_
      rotate_left
      · (intro wy hSw; (try dsimp only at hSw); have y0 := hSw.1; have y1 := hSw.2.1; have y2 := hSw.2.2.1; have y3 := hSw.2.2.2; go_simp; try (with_reducible rfl))
      try simp only [Act.put, List.setIfInBounds_toArray, List.set_cons_zero, List.set_cons_succ]
      refine Late.Goes.takeT (i := 5) (v := ?_) (by simp only [List.getElem?_toArray, List.getElem?_cons_succ, List.getElem?_cons_zero]; rfl) (by kernel_rfl) (by kernel_rfl) (by kernel_rfl) (by kernel_rfl) (by kernel_rfl) (by exact fun _ _ _ h => h) (Or.inl ⟨by rfl, ?_⟩) hH ?_
      rotate_left
      · (intro wy hSw; (try dsimp only at hSw); have y0 := hSw.1; have y1 := hSw.2.1; have y2 := hSw.2.2.1; have y3 := hSw.2.2.2; go_simp; try (with_reducible rfl))
      try simp only [Act.put, List.setIfInBounds_toArray, List.set_cons_zero, List.set_cons_succ]
      refine Late.Goes.takeT (i := 6) (v := ?_) (by simp only [List.getElem?_toArray, List.getElem?_cons_succ, List.getElem?_cons_zero]; rfl) (by kernel_rfl) (by kernel_rfl) (by kernel_rfl) (by kernel_rfl) (by kernel_rfl) (by exact fun _ _ _ h => h) (Or.inl ⟨by rfl, ?_⟩) hH ?_
      rotate_left
      · (intro wy hSw; (try dsimp only at hSw); have y0 := hSw.1; have y1 := hSw.2.1; have y2 := hSw.2.2.1; have y3 := hSw.2.2.2; go_simp; try (with_reducible rfl))
      try simp only [Act.put, List.setIfInBounds_toArray, List.set_cons_zero, List.set_cons_succ]
      refine Late.Goes.takeT (i := 7) (v := ?_) (by simp only [List.getElem?_toArray, List.getElem?_cons_succ, List.getElem?_cons_zero]; rfl) (by kernel_rfl) (by kernel_rfl) (by kernel_rfl) (by kernel_rfl) (by kernel_rfl) (by exact fun _ _ _ h => h) (Or.inl ⟨by rfl, ?_⟩) hH ?_
      rotate_left
      · (intro wy hSw; (try dsimp only at hSw); have y0 := hSw.1; have y1 := hSw.2.1; have y2 := hSw.2.2.1; have y3 := hSw.2.2.2; go_simp; try (with_reducible rfl))
      try simp only [Act.put, List.setIfInBounds_toArray, List.set_cons_zero, List.set_cons_succ]
      refine Late.Goes.takeT (i := 8) (v := ?_) (by simp only [List.getElem?_toArray, List.getElem?_cons_succ, List.getElem?_cons_zero]; rfl) (by kernel_rfl) (by kernel_rfl) (by kernel_rfl) (by kernel_rfl) (by kernel_rfl) (by exact fun _ _ _ h => h) (Or.inl ⟨by rfl, ?_⟩) hH ?_
      rotate_left
      · (intro wy hSw; (try dsimp only at hSw); have y0 := hSw.1; have y1 := hSw.2.1; have y2 := hSw.2.2.1; have y3 := hSw.2.2.2; go_simp; try (with_reducible rfl))
      try simp only [Act.put, List.setIfInBounds_toArray, List.set_cons_zero, List.set_cons_succ]
      refine Late.Goes.takeT (i := 9) (v := ?_) (by simp only [List.getElem?_toArray, List.getElem?_cons_succ, List.getElem?_cons_zero]; rfl) (by kernel_rfl) (by kernel_rfl) (by kernel_rfl) (by kernel_rfl) (by kernel_rfl) (by exact fun _ _ _ h => h) (Or.inl ⟨by rfl, ?_⟩) hH ?_
      rotate_left
      · (intro wy hSw; (try dsimp only at hSw); have y0 := hSw.1; have y1 := hSw.2.1; have y2 := hSw.2.2.1; have y3 := hSw.2.2.2; go_simp; try (with_reducible rfl))
      try simp only [Act.put, List.setIfInBounds_toArray, List.set_cons_zero, List.set_cons_succ]
      refine Late.Goes.takeT (i := 10) (v := ?_) (by simp only [List.getElem?_toArray, List.getElem?_cons_succ, List.getElem?_cons_zero]; rfl) (by kernel_rfl) (by kernel_rfl) (by kernel_rfl) (by kernel_rfl) (by kernel_rfl) (by exact fun _ _ _ h => h) (Or.inl ⟨by rfl, ?_⟩) hH ?_
      rotate_left
      · (intro wy hSw; (try dsimp only at hSw); have y0 := hSw.1; have y1 := hSw.2.1; have y2 := hSw.2.2.1; have y3 := hSw.2.2.2; go_simp; try (with_reducible rfl))
      try simp only [Act.put, List.setIfInBounds_toArray, List.set_cons_zero, List.set_cons_succ]
      refine Late.Goes.takeT (i := 11) (v := ?_) (by simp only [List.getElem?_toArray, List.getElem?_cons_succ, List.getElem?_cons_zero]; rfl) (by kernel_rfl) (by kernel_rfl) (by kernel_rfl) (by kernel_rfl) (by kernel_rfl) (by exact fun _ _ _ h => h) (Or.inl ⟨by rfl, ?_⟩) hH ?_
      rotate_left
      · (intro wy hSw; (try dsimp only at hSw); have y0 := hSw.1; have y1 := hSw.2.1; have y2 := hSw.2.2.1; have y3 := hSw.2.2.2; go_simp; try (with_reducible rfl))
      try simp only [Act.put, List.setIfInBounds_toArray, List.set_cons_zero, List.set_cons_succ]
      refine Late.Goes.takeT (i := 12) (v := ?_) (by simp only [List.getElem?_toArray, List.getElem?_cons_succ, List.getElem?_cons_zero]; rfl) (by kernel_rfl) (by kernel_rfl) (by kernel_rfl) (by kernel_rfl) (by kernel_rfl) (by exact fun _ _ _ h => h) (Or.inl ⟨by rfl, ?_⟩) hH ?_
      rotate_left
      · (intro wy hSw; (try dsimp only at hSw); have y0 := hSw.1; have y1 := hSw.2.1; have y2 := hSw.2.2.1; have y3 := hSw.2.2.2; go_simp; try (with_reducible rfl))
      try simp only [Act.put, List.setIfInBounds_toArray, List.set_cons_zero, List.set_cons_succ]
      refine Late.Goes.takeT (i := 13) (v := ?_) (by simp only [List.getElem?_toArray, List.getElem?_cons_succ, List.getElem?_cons_zero]; rfl) (by kernel_rfl) (by kernel_rfl) (by kernel_rfl) (by kernel_rfl) (by kernel_rfl) (by exact fun _ _ _ h => h) (Or.inl ⟨by rfl, ?_⟩) hH ?_
      rotate_left
      · (intro wy hSw; (try dsimp only at hSw); have y0 := hSw.1; have y1 := hSw.2.1; have y2 := hSw.2.2.1; have y3 := hSw.2.2.2; go_simp; try (with_reducible rfl))
      try simp only [Act.put, List.setIfInBounds_toArray, List.set_cons_zero, List.set_cons_succ]
      refine Late.Goes.takeT (i := 14) (v := ?_) (by simp only [List.getElem?_toArray, List.getElem?_cons_succ, List.getElem?_cons_zero]; rfl) (by kernel_rfl) (by kernel_rfl) (by kernel_rfl) (by kernel_rfl) (by kernel_rfl) (by exact fun _ _ _ h => h) (Or.inl ⟨by rfl, ?_⟩) hH ?_
      rotate_left
      · (intro wy hSw; (try dsimp only at hSw); have y0 := hSw.1; have y1 := hSw.2.1; have y2 := hSw.2.2.1; have y3 := hSw.2.2.2; go_simp; try (with_reducible rfl))
      try simp only [Act.put, List.setIfInBounds_toArray, List.set_cons_zero, List.set_cons_succ]
      generalize wr.drew = W4 at HA HO HC hbs hH ⊢
      refine Late.Goes.one (i := 15) (by kernel_rfl) (by simp only [List.getElem?_toArray, List.getElem?_cons_succ, List.getElem?_cons_zero]; rfl) (fun K hK => ?_)
      clear hH
      go_simp
      have hb6 : But (fun _ => False) W4 (W4.alloc (.cells #[.string x1, .string x2] 94)) := But.alloc (But.refl (fun _ => False) W4) (.cells #[.string x1, .string x2] 94)
      have H6 := Lib.hid (And.intro (HA.out.same hb6) (ownsRow_alloc HO.out (.cells #[.string x1, .string x2] 94)))
      have HE6 := Lib.hid (show Sees (W4.alloc (.cells #[.string x1, .string x2] 94)) 2 (.slice (some ⟨W4.heap.size, 0, none⟩) 1 1) 1 (pcells (x1, x2)) from sees_cells W4 (pcells (x1, x2)) 2 rfl _ _ _ rfl)
      have hbd : b < W4.heap.size := by have := HA.out.lts; have := HA.out.but.size; omega
      have HC6 := Lib.hid (show (W4.alloc (.cells #[.string x1, .string x2] 94)).cell? ⟨(w.heap.size + 3), 7, none⟩ = some (.slice va k vc) ∧ (W4.alloc (.cells #[.string x1, .string x2] 94)).cell? ⟨w.heap.size, 7, none⟩ = some (.slice (some ⟨b, off, none⟩) page.length pc) ∧ (W4.alloc (.cells #[.string x1, .string x2] 94)).cell? ⟨b, off + k * 2, none⟩ = some (.string x1) ∧ (W4.alloc (.cells #[.string x1, .string x2] 94)).cell? ⟨b, off + k * 2 + 1, none⟩ = some (.string x2) from
        ⟨(H6.out.1.box.cell 7).trans rfl, (H6.out.1.arg.cell 7).trans rfl, (hb6.cell (p := ⟨b, off + k * 2, none⟩) hbd (fun e => e)).trans HC.out.2.2.1, (hb6.cell (p := ⟨b, off + k * 2 + 1, none⟩) hbd (fun e => e)).trans HC.out.2.2.2⟩)
      have hbs6 : (w.heap.size + 4) ≤ (W4.alloc (.cells #[.string x1, .string x2] 94)).heap.size := by simp; omega
      have hbd6 : b < (W4.alloc (.cells #[.string x1, .string x2] 94)).heap.size := by simp; omega
      clear hb6 HC hbd HA HO
      generalize (W4.alloc (.cells #[.string x1, .string x2] 94)) = W6 at H6 HE6 HC6 hbs6 hbd6 ⊢
      refine hK.out _ _ ?_ (fun hH => ?_)
      · exact fun _ => HC6.out
      clear hK K
      have hH := hH rfl
      try simp only [Act.put, List.setIfInBounds_toArray, List.set_cons_zero, List.set_cons_succ]
      refine Late.Goes.one (i := 16) (by kernel_rfl) (by simp only [List.getElem?_toArray, List.getElem?_cons_succ, List.getElem?_cons_zero]; rfl) (fun K hK => ?_)
      clear hH
      refine step_append_onto rfl (.tmp 38) (.tmp 52) _ rfl (w.heap.size + 4) 94 i0 _ 2 32 Try.underlying60 hi0 hz0 hz1 hz2 rfl (by omega) (.slice va k vc) k ((page.take k).flatMap pcells) rfl H6.out.2 (.slice (some ⟨W4.heap.size, 0, none⟩) 1 1) 1 (pcells (x1, x2)) rfl HE6.out (by simp [pcells, Value.oneCell']) (by simp only [maxLen]; omega) (by omega) hbs6 ?_
      intro v5 w5 ho5 hon5
      obtain ⟨a5, c5, hv5⟩ := own_slt ho5
      subst hv5
      have hs5 := H6.out.1.grow hon5.but (fun j e => (H6.out.2.lt j e.symm).1)
      have hoc : ∀ i, w5.cell? ⟨b, i, none⟩ = W6.cell? ⟨b, i, none⟩ := fun i => hon5.but.cell (p := ⟨b, i, none⟩) hbd6 (fun e => by have := (H6.out.2.lt b e.symm).1; have := hblt; omega)
      have HC5 := Lib.hid (show w5.cell? ⟨(w.heap.size + 3), 7, none⟩ = some (.slice va k vc) ∧ w5.cell? ⟨w.heap.size, 7, none⟩ = some (.slice (some ⟨b, off, none⟩) page.length pc) ∧ w5.cell? ⟨b, off + k * 2, none⟩ = some (.string x1) ∧ w5.cell? ⟨b, off + k * 2 + 1, none⟩ = some (.string x2) from
        ⟨(hs5.box.cell 7).trans rfl, (hs5.arg.cell 7).trans rfl, (hoc _).trans HC6.out.2.2.1, (hoc _).trans HC6.out.2.2.2⟩)
      have c7 : w5.cell? ⟨(w.heap.size + 3), 7, none⟩ = some (.slice va k vc) := HC5.out.1
      have f7 : w5.frozen? ⟨(w.heap.size + 3), 7, none⟩ = false := hs5.box.frozen 7
      have H5 := Lib.hid (And.intro hs5 ho5)
      clear hs5 ho5 hon5 hoc hbs6 hbd6 H6 HE6 HC6
      refine hK.out _ _ ?_ (fun hH => ?_)
      · exact fun _ => HC5.out
      clear hK K
      have hH := hH rfl
      try simp only [Act.put, List.setIfInBounds_toArray, List.set_cons_zero, List.set_cons_succ]
      refine Late.Goes.takeT (i := 17) (v := ?_) (by simp only [List.getElem?_toArray, List.getElem?_cons_succ, List.getElem?_cons_zero]; rfl) (by kernel_rfl) (by kernel_rfl) (by kernel_rfl) (by kernel_rfl) (by kernel_rfl) (by exact fun _ _ _ h => h) (Or.inl ⟨by rfl, ?_⟩) hH ?_
      rotate_left
      · (intro wy hSw; (try dsimp only at hSw); have y0 := hSw.1; have y1 := hSw.2.1; have y2 := hSw.2.2.1; have y3 := hSw.2.2.2; go_simp; try (with_reducible rfl))
      try simp only [Act.put, List.setIfInBounds_toArray, List.set_cons_zero, List.set_cons_succ]
      refine Late.Goes.one (i := 18) (by kernel_rfl) (by simp only [List.getElem?_toArray, List.getElem?_cons_succ, List.getElem?_cons_zero]; rfl) (fun K hK => ?_)
      clear hH
      go_simp
      have hs6 := H5.out.1.set 7 (.slice a5 (k + 1) c5) (cb' := #[.int .i64 code, .int .i64 tb, .int .u32 (tg : Int), .int .u32 (ts : Int), .int .u64 (tx : Int), .int .u64 (ver : Int), .string val, .slice a5 (k + 1) c5, .bool more, .slice (some ⟨w.heap.size + 2, 0, none⟩) 4 4, .slice ba buckets.length bc]) rfl
      have hsn : (page.take (k + 1)).flatMap pcells = (page.take k).flatMap pcells ++ pcells (x1, x2) := by
        rw [List.take_succ_eq_append_getElem hlt, List.flatMap_append, HXE.out]; simp
      have ho6 : World.ownsRow (w5.setCell ⟨(w.heap.size + 3), 7, none⟩ (.slice a5 (k + 1) c5)) (w.heap.size + 4) 94 2 (.slice a5 (k + 1) c5) (k + 1) ((page.take (k + 1)).flatMap pcells) := by
        refine ownsRow_but (S := fun j => j = (w.heap.size + 3)) ?_ ((But.refl (fun j => j = (w.heap.size + 3)) w5).setCell (p := ⟨(w.heap.size + 3), 7, none⟩) rfl _) (fun j hj e => by have := (H5.out.2.lt j hj).1; omega)
        rw [hsn]
        exact H5.out.2
      have HF := Lib.hid (And.intro hs6 ho6)
      clear hs6 hsn ho6 c7 f7 HC5
      refine hK.out _ _ ?_ (fun _ => ?_)
      · exact fun h => by cases h
      clear hK K
      try simp only [Act.put, List.setIfInBounds_toArray, List.set_cons_zero, List.set_cons_succ]
      refine Late.Goes.done (by kernel_rfl) ?_ _
      go_wp2_with fail
      go_roundw
      case rel => exact ⟨k + 1, a5, c5, by go_num, by omega, HF.out⟩
      case measure => simp [intOf]; omega
    · have hkl : k = page.length := by omega
      subst hkl
      have hall : page.take page.length = page := List.take_of_length_le (Nat.le_refl _)
      rw [hall] at ho
      have hsp := shows_of_own (l := page) (f := pcells) (k := 2) (fun _ => rfl) ho
      have hst := stat_shows (r := ⟨code, ⟨tb, tg, ts, tx⟩, ver, val, page, more, keys, bytes, charged, seq, buckets⟩) hA.st
      have hone : (#[.int .i64 code, .int .i64 tb, .int .u32 (tg : Int), .int .u32 (ts : Int), .int .u64 (tx : Int), .int .u64 (ver : Int), .string val, .slice va page.length vc, .bool more, .slice (some ⟨w.heap.size + 2, 0, none⟩) 4 4, .slice ba buckets.length bc] : Array Value).all (fun x => x.oneCell') = true := by simp [Value.oneCell']
      have HONE := Lib.hid hone
      have HBX := Lib.hid (show _ = _ from hA.box)
      have HRX := Lib.hid (show _ = _ from hA.res)
      have HOLD := Lib.hid (show (#[.int .i64 0, .int .i64 0, .int .u32 0, .int .u32 0, .int .u64 0, .int .u64 0, .string ⟨#[]⟩, .slice none 0 0, .bool false, .slice none 0 0, .slice none 0 0] : Array Value).size = (#[.int .i64 code, .int .i64 tb, .int .u32 (tg : Int), .int .u32 (ts : Int), .int .u64 (tx : Int), .int .u64 (ver : Int), .string val, .slice va page.length vc, .bool more, .slice (some ⟨w.heap.size + 2, 0, none⟩) 4 4, .slice ba buckets.length bc] : Array Value).size by simp)
      have HSZ := Lib.hid (rresp_size.trans (show some 11 = some (#[.int .i64 code, .int .i64 tb, .int .u32 (tg : Int), .int .u32 (ts : Int), .int .u64 (tx : Int), .int .u64 (ver : Int), .string val, .slice va page.length vc, .bool more, .slice (some ⟨w.heap.size + 2, 0, none⟩) 4 4, .slice ba buckets.length bc] : Array Value).size by simp))
      have hbr := but_setRow (fun j => j = (w.heap.size + 1)) (But.refl _ wr) (.inl rfl) #[.int .i64 code, .int .i64 tb, .int .u32 (tg : Int), .int .u32 (ts : Int), .int .u64 (tx : Int), .int .u64 (ver : Int), .string val, .slice va page.length vc, .bool more, .slice (some ⟨w.heap.size + 2, 0, none⟩) 4 4, .slice ba buckets.length bc]
      have hlt2 := hA.lts
      have HF := Lib.hid (And.intro ((hsp.but hbr (fun j h1 _ e => by omega)).mono (Nat.zero_le _)) (And.intro ((hst.but hbr (fun j h1 _ e => by omega)).mono (Nat.zero_le _)) (And.intro (HB.out.new (hA.but.trans hbr (fun j hj e => by omega))) (hA.but.trans hbr (fun j hj e => by omega)))))
      clear hone hsp hst hbr hall hlt hk hA ho HA HO hlt2
      go_wp2_with (first
        | (refine wpList_load_row rfl 63 _ rfl (w.heap.size + 3) rfl 63 _ (0, 0) _ HBX.out Try.underlying63 rfl HSZ.out ?_)
        | (refine wpList_store_rowTo rfl 63 _ _ rfl rfl (w.heap.size + 1) #[.int .i64 code, .int .i64 tb, .int .u32 (tg : Int), .int .u32 (ts : Int), .int .u64 (tx : Int), .int .u64 (ver : Int), .string val, .slice va page.length vc, .bool more, .slice (some ⟨w.heap.size + 2, 0, none⟩) 4 4, .slice ba buckets.length bc] rfl rfl 63 #[.int .i64 0, .int .i64 0, .int .u32 0, .int .u32 0, .int .u64 0, .int .u64 0, .string ⟨#[]⟩, .slice none 0 0, .bool false, .slice none 0 0, .slice none 0 0] HRX.out HSZ.out HOLD.out HONE.out ?_))
      refine bodyPost_ret (results_cell_row rfl _ _ (w.heap.size + 1) 63 #[.int .i64 code, .int .i64 tb, .int .u32 (tg : Int), .int .u32 (ts : Int), .int .u64 (tx : Int), .int .u64 (ver : Int), .string val, .slice va page.length vc, .bool more, .slice (some ⟨w.heap.size + 2, 0, none⟩) 4 4, .slice ba buckets.length bc] (0, 0) _ rfl (setRow_heap _ _ _ _ _ _ HRX.out) Try.underlying63 rfl HSZ.out) rfl ?_
      exact ⟨_, _, _, rfl, HF.out.1, HF.out.2.1, HF.out.2.2.1, HF.out.2.2.2⟩
end Go.Proofs.Ytbdbbnpkekcefaa.Cmd
