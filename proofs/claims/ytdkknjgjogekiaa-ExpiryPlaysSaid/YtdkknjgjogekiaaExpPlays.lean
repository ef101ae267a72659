/- ExpiryPlays walked: what anything that is pushed, and popped, comes to. -/
import Derived.Test.YtdkknjgjogekiaaExpSorts
namespace Go.Proofs.Ytdkknjgjogekiaa.Exp
open Go.Proofs.Ytdkknjgjogekiaa.Mem
open Go.ChangeShapes Go.WideShapes Go.ChangeAt Go.RowKit
set_option linter.unusedVariables false
set_option linter.unusedSimpArgs false
structure Deed where
  what : Int
  x : It
def dcells (d : Deed) : List Value := .int .i64 d.what :: icells d.x
theorem dcells_length (d : Deed) : (dcells d).length = 3 := rfl
def dnil : Deed := ⟨0, nil⟩
def dlook (l : List Deed) (i : Nat) : Deed := l.getD i dnil
structure OkD (d : Deed) : Prop where
  what : -9223372036854775808 ≤ d.what ∧ d.what ≤ 9223372036854775807
  x : Ok d.x
structure CameD (W : World) (a : Option Addr) (l : List Deed) : Prop where
  ok : ∀ d ∈ l, OkD d
  at_ : 0 < l.length → ∃ g o, a = some ⟨g, o, none⟩ ∧ g < W.heap.size ∧ ∀ i, i < l.length → W.rangeAt g (o + i * 3) (dcells (dlook l i))
theorem item_neq0 (w : World) : (binOp .neq 29 (.agg #[.int .u64 0, .string ⟨#[]⟩]) (.agg #[.int .u64 0, .string ⟨#[]⟩])).run Try.prog w = .ok (.bool false) w := by kernel_rfl
section
variable {W w w' : World} {p : Nat} {v v' : Value} {l m m' : List It} {a : Option Addr} {n c : Nat}
theorem CameD.cell {l : List Deed} (h : CameD W a l) (hb : But (fun _ => False) W w) {i : Nat} (hi : i < l.length) : ∃ g o, a = some ⟨g, o, none⟩ ∧ w.cell? ⟨g, o + i * 3, none⟩ = some (.int .i64 (dlook l i).what) ∧ w.cell? ⟨g, o + i * 3 + 1, none⟩ = some (.int .u64 ((dlook l i).x.time : Int)) ∧ w.cell? ⟨g, o + i * 3 + 2, none⟩ = some (.string (dlook l i).x.key) := by
  obtain ⟨g, o, ha, hg, hr⟩ := h.at_ (by omega)
  refine ⟨g, o, ha, ?_, ?_, ?_⟩
  · exact (hb.cell (p := ⟨g, o + i * 3, none⟩) hg (fun h => h)).trans (hr i hi 0 _ rfl)
  · exact (hb.cell (p := ⟨g, o + i * 3 + 1, none⟩) hg (fun h => h)).trans (hr i hi 1 _ rfl)
  · exact (hb.cell (p := ⟨g, o + i * 3 + 2, none⟩) hg (fun h => h)).trans (hr i hi 2 _ rfl)
theorem Live.ref_off (h : Live W w p v m) {k : Nat} (hk : ∃ cs, Blk w k 35 cs) : ¬ Foot p v k := by
  obtain ⟨cs, hk⟩ := hk
  obtain ⟨l, hh, r⟩ := h.heap
  rintro (e | e)
  · exact hk.ne_ hh.blk (by decide) e
  · exact own_blk_ne hh.own hk (by decide) e.symm
theorem Ref.turn {W0 : Nat} (h : Ref w W0 a n c m') (hL : Live W w p v m) (hb : But (Foot p v) w w') : Ref w' W0 a n c m' := h.but hb (fun k _ _ hk => hL.ref_off hk)
theorem Ref.new_ {W0 : Nat} (h : Ref w W0 a n c m) (hb : But (fun _ => False) w w') : Ref w' W0 a n c m := h.but hb (fun _ _ _ _ h => h)
theorem Ref.first {W0 : Nat} {y : It} {t : List It} (h : Ref w W0 a n c (y :: t)) : ∃ g off, a = some ⟨g, off, none⟩ ∧ w.cell? ⟨g, off, none⟩ = some (.int .u64 (y.time : Int)) ∧ w.cell? ⟨g, off + 1, none⟩ = some (.string y.key) := by
  obtain ⟨g, off, h1, h2, h3⟩ := h.shows.cells (i := 0) (by simp)
  exact ⟨g, off, h1, by have := h3 0 _ rfl; simpa [look, List.getD] using this, by have := h3 1 _ rfl; simpa [look, List.getD] using this⟩
theorem Ref.tail {W0 g off : Nat} {y : It} {t : List It} (h : Ref w W0 (some ⟨g, off, none⟩) n c (y :: t)) : (c = 1 → n = 1 ∧ Ref w W0 (some ⟨g, off, none⟩) 0 0 t) ∧ (c ≠ 1 → Ref w W0 (some ⟨g, off + 2, none⟩) (n - 1) (c - 1) t) := by
  have hl := h.len
  have hc := h.le
  simp at hl
  refine ⟨fun e => ?_, fun e => ?_⟩
  · have ht : t = [] := List.eq_nil_of_length_eq_zero (by omega)
    subst ht
    exact ⟨by simp at hl; omega, .inl rfl, rfl, (fun e => by cases e), Nat.le_refl _, List.Pairwise.nil, h.new⟩
  · have hs := h.shows.drop (k := 1)
    refine ⟨hs, by omega, (fun e => by cases e), by omega, (List.pairwise_cons.1 h.ris).2, fun g' off' s e => ?_⟩
    injection e with e
    injection e with e1 e2 e3
    subst e1
    exact ⟨(h.new g off none rfl).1, (h.new g off none rfl).2.1, e3.symm⟩
theorem Live.but_ (h : Live W w p v m) : But (fun _ => False) W w := h.but
set_option maxRecDepth 100000 in
set_option maxHeartbeats 8000000 in
theorem plays_any {l : List Deed} (h : CameD W a l) (hl : l.length ≤ 200) :
    Calls Try.prog 3 #[.slice a l.length c] W fun e w' => e = .returned (.bool true) ∧ But (fun _ => False) W w' := by
  have HA := Lib.hid h
  have HU := Lib.hid (up_any W)
  obtain ⟨n, hn⟩ : ∃ n, n = l.length := ⟨_, rfl⟩
  rw [← hn] at hl ⊢
  have HN := Lib.hid hn
  clear h hn
  go_enter Try.func3, Try.ntmps3
  go_wp2_with fail
  refine HU.out.mono ?_
  rintro e w1 ⟨rfl, hB1⟩
  have HNW := Lib.hid (hnew_any w1)
  have HB1 := Lib.hid hB1
  clear hB1 HU
  go_wp2_with fail
  refine HNW.out.mono ?_
  rintro e w2 ⟨rfl, hM, hB⟩
  have hL := live_new HB1.out hM hB
  obtain ⟨p, hp⟩ : ∃ p, p = w1.heap.size := ⟨_, rfl⟩
  rw [← hp] at hL ⊢
  have HS := Lib.hid hL
  clear hM hB hL hp HNW HB1
  go_wp2_with fail
  go_loopw [5, 6] (fun x y wr => ∃ (k : Nat) (v : Value) (m : List It) (am : Option Addr) (nm cm : Nat), x = .slice am nm cm ∧ y = .int .i64 (k : Int) ∧ k ≤ n ∧ nm ≤ k ∧ Live W wr p v m ∧ Ref wr W.heap.size am nm cm m) (fun _ y _ => n - (intOf y).toNat)
  case atStart => exact ⟨0, _, [], none, 0, 0, rfl, rfl, by omega, Nat.le_refl _, HS.out, ⟨.inl rfl, rfl, (fun _ => rfl), Nat.le_refl _, List.Pairwise.nil, (fun g off s e => by cases e)⟩⟩
  case round =>
    obtain ⟨k, v, m, am, nm, cm, rfl, rfl, hk, hnm, hL, hR⟩ := hrel
    have HL := Lib.hid hL
    have HR := Lib.hid hR
    by_cases hlt : k < n
    · obtain ⟨g, o, ha, c0, c1, c2⟩ := HA.out.cell hL.but (i := k) (by have := HN.out; omega)
      have hdo := HA.out.ok (dlook l k) (by have := HN.out; rw [show dlook l k = l[k]'(by omega) by simp [dlook, List.getD, show k < l.length by omega]]; exact List.getElem_mem _)
      obtain ⟨d, hd⟩ : ∃ d, d = dlook l k := ⟨_, rfl⟩
      rw [← hd] at c0 c1 c2 hdo
      obtain ⟨what, x⟩ := d
      simp only at c0 c1 c2
      have HWH := Lib.hid hdo.what
      have hb1 : But (fun _ => False) wr (wr.alloc (.cells #[.int .i64 what, .int .u64 (x.time : Int), .string x.key] 31)) := (But.refl _ wr).alloc _
      obtain ⟨w1, hw1⟩ : ∃ w1, w1 = wr.alloc (.cells #[.int .i64 what, .int .u64 (x.time : Int), .string x.key] 31) := ⟨_, rfl⟩
      have hX : Blk w1 wr.heap.size 31 #[.int .i64 what, .int .u64 (x.time : Int), .string x.key] := by rw [hw1]; exact Blk.new _ _ _
      rw [← hw1] at hb1
      have HX := Lib.hid hX
      have HL1 := Lib.hid (hL.new hb1)
      have HR1 := Lib.hid (hR.new_ hb1)
      have HNF := Lib.hid (hL.newer (Nat.le_refl _))
      have HW1 := Lib.hid hw1
      have x0 : w1.cell? ⟨wr.heap.size, 0, none⟩ = some (.int .i64 what) := hX.cell 0
      have x1 : w1.cell? ⟨wr.heap.size, 1, none⟩ = some (.int .u64 (x.time : Int)) := hX.cell 1
      have x2 : w1.cell? ⟨wr.heap.size, 2, none⟩ = some (.string x.key) := hX.cell 2
      have HP := Lib.hid (pick_any w1 what HWH.out)
      obtain ⟨t, ht⟩ : ∃ t, t = pickOf what := ⟨_, rfl⟩
      have htl := pickOf_lt what
      rw [← ht] at HP htl
      rw [ha]
      rw [hw1] at x0 x1 x2
      clear hL hR hdo hd hb1 hX hw1 ht ha
      by_cases hks : 100 < x.key.size
      · have hks2 : (100 : Int) < (x.key.size : Int) := by omega
        go_wp2_with fail
        go_ret
        exact ⟨rfl, by rw [← HW1.out]; exact HL1.out.but⟩
      · have hks2 : ¬ ((100 : Int) < (x.key.size : Int)) := by omega
        go_wp2_with fail
        rw [← HW1.out]
        refine HP.out.mono ?_
        rintro e w2 ⟨rfl, hw2⟩
        rw [hw2]
        clear HP hw2 c0 c1 c2
        rw [← HW1.out] at x0 x1 x2
        clear HW1
        have ht4 : t = 0 ∨ t = 1 ∨ t = 2 ∨ t = 3 := by omega
        clear htl
        rcases ht4 with rfl | rfl | rfl | rfl
        · skip
          have HQ := Lib.hid (hpush_any' HL1.out.heap x (by have := HR1.out.len; omega))
          go_wp2_with fail
          refine HQ.out.mono ?_
          rintro e w2 ⟨rfl, v3, hM, hB, hNx⟩
          have HL2 := Lib.hid (HL1.out.turn hB hM)
          have HR2 := Lib.hid (HR1.out.turn HL1.out hB)
          have hx2 := HX.out.but hB HNF.out
          have x4 : w2.cell? ⟨wr.heap.size, 1, none⟩ = some (.int .u64 (x.time : Int)) := hx2.cell 1
          have x5 : w2.cell? ⟨wr.heap.size, 2, none⟩ = some (.string x.key) := hx2.cell 2
          have HRP := Lib.hid (rpush_any HR2.out x (by omega) HL2.out.but.size)
          clear hM hB hNx hx2 x0 x1 x2 HQ HR1 HL1
          go_wp2_with fail
          refine HRP.out.mono ?_
          rintro e w3 ⟨a3, c3, rfl, hR3, hB3⟩
          have HL3 := Lib.hid (HL2.out.new hB3)
          obtain ⟨m3, hm3⟩ : ∃ m3, m3 = ins m x := ⟨_, rfl⟩
          obtain ⟨n3, hn3⟩ : ∃ n3, n3 = nm + 1 := ⟨_, rfl⟩
          rw [← hm3] at HL3 hR3
          rw [← hn3] at hR3 ⊢
          have HR3 := Lib.hid hR3
          have hn3k : n3 ≤ k + 1 := by omega
          clear hR3 hB3 hm3 hn3 HRP HL2 HR2 x4 x5

          have HI := Lib.hid (hitems_any HL3.out.heap)
          go_wp2_with fail
          refine HI.out.mono ?_
          rintro e w4 ⟨l4, hh4, hl4, a4, c4, rfl, hs4, hg4, hn4, hb4⟩
          have HL4 := Lib.hid (HL3.out.new hb4)
          have HR4 := Lib.hid (HR3.out.new_ hb4)
          have hl4' : n3 = l4.length := HR3.out.len.trans hl4.symm
          have HLN := Lib.hid (hlen_any HL4.out.heap)
          rw [← HR3.out.len] at HLN
          have HO := Lib.hid (ordered_any (n := n3) (c := c4) hs4 hl4' (by omega) hh4)
          rw [← hl4']
          clear hh4 hl4 hs4 hg4 hn4 hb4 hl4' HI HL3 HR3
          go_wp2_with fail
          refine HLN.out.mono ?_
          rintro e w5 ⟨rfl, rfl⟩
          clear HLN
          go_wp2_with fail
          refine HO.out.mono ?_
          rintro e w6 ⟨rfl, hb6⟩
          have HL6 := Lib.hid (HL4.out.new hb6)
          have HR6 := Lib.hid (HR4.out.new_ hb6)
          clear hb6 HO HL4 HR4
          go_wp2_with fail
          go_roundw
          case rel => exact ⟨k + 1, v3, m3, a3, n3, c3, rfl, by go_num, by omega, by omega, HL6.out, HR6.out⟩
          case measure => simp [intOf]; omega
        · skip
          have HQ := Lib.hid (hpush_any' HL1.out.heap x (by have := HR1.out.len; omega))
          go_wp2_with fail
          refine HQ.out.mono ?_
          rintro e w2 ⟨rfl, v3, hM, hB, hNx⟩
          have HL2 := Lib.hid (HL1.out.turn hB hM)
          have HR2 := Lib.hid (HR1.out.turn HL1.out hB)
          have hx2 := HX.out.but hB HNF.out
          have x4 : w2.cell? ⟨wr.heap.size, 1, none⟩ = some (.int .u64 (x.time : Int)) := hx2.cell 1
          have x5 : w2.cell? ⟨wr.heap.size, 2, none⟩ = some (.string x.key) := hx2.cell 2
          have HRP := Lib.hid (rpush_any HR2.out x (by omega) HL2.out.but.size)
          clear hM hB hNx hx2 x0 x1 x2 HQ HR1 HL1
          go_wp2_with fail
          refine HRP.out.mono ?_
          rintro e w3 ⟨a3, c3, rfl, hR3, hB3⟩
          have HL3 := Lib.hid (HL2.out.new hB3)
          obtain ⟨m3, hm3⟩ : ∃ m3, m3 = ins m x := ⟨_, rfl⟩
          obtain ⟨n3, hn3⟩ : ∃ n3, n3 = nm + 1 := ⟨_, rfl⟩
          rw [← hm3] at HL3 hR3
          rw [← hn3] at hR3 ⊢
          have HR3 := Lib.hid hR3
          have hn3k : n3 ≤ k + 1 := by omega
          clear hR3 hB3 hm3 hn3 HRP HL2 HR2 x4 x5

          have HI := Lib.hid (hitems_any HL3.out.heap)
          go_wp2_with fail
          refine HI.out.mono ?_
          rintro e w4 ⟨l4, hh4, hl4, a4, c4, rfl, hs4, hg4, hn4, hb4⟩
          have HL4 := Lib.hid (HL3.out.new hb4)
          have HR4 := Lib.hid (HR3.out.new_ hb4)
          have hl4' : n3 = l4.length := HR3.out.len.trans hl4.symm
          have HLN := Lib.hid (hlen_any HL4.out.heap)
          rw [← HR3.out.len] at HLN
          have HO := Lib.hid (ordered_any (n := n3) (c := c4) hs4 hl4' (by omega) hh4)
          rw [← hl4']
          clear hh4 hl4 hs4 hg4 hn4 hb4 hl4' HI HL3 HR3
          go_wp2_with fail
          refine HLN.out.mono ?_
          rintro e w5 ⟨rfl, rfl⟩
          clear HLN
          go_wp2_with fail
          refine HO.out.mono ?_
          rintro e w6 ⟨rfl, hb6⟩
          have HL6 := Lib.hid (HL4.out.new hb6)
          have HR6 := Lib.hid (HR4.out.new_ hb6)
          clear hb6 HO HL4 HR4
          go_wp2_with fail
          go_roundw
          case rel => exact ⟨k + 1, v3, m3, a3, n3, c3, rfl, by go_num, by omega, by omega, HL6.out, HR6.out⟩
          case measure => simp [intOf]; omega
        · skip
          cases m with
          | nil =>
            have HQ := Lib.hid (hpop_no HL1.out.heap)
            have hn0 : nm = 0 := HR1.out.len
            subst hn0
            go_wp2_with fail
            refine HQ.out.mono ?_
            rintro e w2 ⟨rfl, hB⟩
            obtain ⟨w3, hw3⟩ : ∃ w3, w3 = w2.alloc (.cells #[.int .u64 0, .string ⟨#[]⟩] 29) := ⟨_, rfl⟩
            have hB3 : But (fun _ => False) w1 w3 := by rw [hw3]; exact hB.alloc _
            have HL3 := Lib.hid (HL1.out.new hB3)
            have HR3 := Lib.hid (HR1.out.new_ hB3)
            have hx3 : Blk w3 w2.heap.size 29 #[.int .u64 0, .string ⟨#[]⟩] := by rw [hw3]; exact Blk.new _ _ _
            have x4 : w3.cell? ⟨w2.heap.size, 0, none⟩ = some (.int .u64 0) := hx3.cell 0
            have x5 : w3.cell? ⟨w2.heap.size, 1, none⟩ = some (.string ⟨#[]⟩) := hx3.cell 1
            rw [hw3] at x4 x5
            have HW3 := Lib.hid hw3
            have hne := item_neq0
            clear hB hB3 hx3 hw3 x0 x1 x2 HQ HL1 HR1
            go_wp2_with fail
            rw [← HW3.out]
            clear x4 x5
            have HI := Lib.hid (hitems_any HL3.out.heap)
            go_wp2_with fail
            refine HI.out.mono ?_
            rintro e w4 ⟨l4, hh4, hl4, a4, c4, rfl, hs4, hg4, hn4, hb4⟩
            have HL4 := Lib.hid (HL3.out.new hb4)
            have HR4 := Lib.hid (HR3.out.new_ hb4)
            have hl4' : 0 = l4.length := HR3.out.len.trans hl4.symm
            have HLN := Lib.hid (hlen_any HL4.out.heap)
            rw [← HR3.out.len] at HLN
            have HO := Lib.hid (ordered_any (n := 0) (c := c4) hs4 hl4' (by omega) hh4)
            rw [← hl4']
            clear hh4 hl4 hs4 hg4 hn4 hb4 hl4' HI HL3 HR3
            go_wp2_with fail
            refine HLN.out.mono ?_
            rintro e w5 ⟨rfl, rfl⟩
            clear HLN
            go_wp2_with fail
            refine HO.out.mono ?_
            rintro e w6 ⟨rfl, hb6⟩
            have HL6 := Lib.hid (HL4.out.new hb6)
            have HR6 := Lib.hid (HR4.out.new_ hb6)
            clear hb6 HO HL4 HR4
            go_wp2_with fail
            go_roundw
            case rel => exact ⟨k + 1, v, ([] : List It), am, 0, cm, rfl, by go_num, by omega, by omega, HL6.out, HR6.out⟩
            case measure => simp [intOf]; omega
          | cons y t =>
            have HQ := Lib.hid (hpop_yes HL1.out.heap)
            have hn1 := HR1.out.len
            simp at hn1
            obtain ⟨g2, o2, ha2, -, -⟩ := HR1.out.first
            subst ha2
            have hnp : 0 < nm := by omega
            have hnp2 : (0 : Int) < (nm : Int) := by omega
            clear hn1
            go_wp2_with fail
            refine HQ.out.mono ?_
            rintro e w2 ⟨rfl, v3, hM, hB, hon⟩
            obtain ⟨w3, hw3⟩ : ∃ w3, w3 = w2.alloc (.cells #[.int .u64 (y.time : Int), .string y.key] 29) := ⟨_, rfl⟩
            have hB3 : But (fun _ => False) w2 w3 := by rw [hw3]; exact (But.refl _ w2).alloc _
            have HL4 := Lib.hid ((HL1.out.turn hB hM).new hB3)
            have hR4 := (HR1.out.turn HL1.out hB).new_ hB3
            obtain ⟨g4, o4, ha4, r0, r1⟩ := hR4.first
            injection ha4 with ha4
            injection ha4 with e1 e2
            subst e1 e2
            have hx3 : Blk w3 w2.heap.size 29 #[.int .u64 (y.time : Int), .string y.key] := by rw [hw3]; exact Blk.new _ _ _
            have x4 : w3.cell? ⟨w2.heap.size, 0, none⟩ = some (.int .u64 (y.time : Int)) := hx3.cell 0
            have x5 : w3.cell? ⟨w2.heap.size, 1, none⟩ = some (.string y.key) := hx3.cell 1
            have y4 := fun q => show (w3.drewN q).cell? ⟨w2.heap.size, 0, none⟩ = some (.int .u64 (y.time : Int)) from x4
            have y5 := fun q => show (w3.drewN q).cell? ⟨w2.heap.size, 1, none⟩ = some (.string y.key) from x5
            have s0 := fun q => show (w3.drewN q).cell? ⟨g2, o2, none⟩ = some (.int .u64 (y.time : Int)) from r0
            have s1 := fun q => show (w3.drewN q).cell? ⟨g2, o2 + 1, none⟩ = some (.string y.key) from r1
            have HR4 := Lib.hid hR4
            have HW3 := Lib.hid hw3
            have hss : (y.key.toList == y.key.toList) = true := by simp
            clear hB hB3 hx3 hw3 x0 x1 x2 HQ HL1 HR1 hon hM hR4
            go_wp2_with fail
            rw [← HW3.out]
            go_quiet (fail)
            have HL3 := Lib.hid (HL4.out.new ((But.refl (fun _ => False) w3).drewN nq))
            have HRX := Lib.hid (HR4.out.new_ ((But.refl (fun _ => False) w3).drewN nq))
            generalize w3.drewN nq = w7 at HL3 HRX ⊢
            clear x4 x5 y4 y5 s0 s1 r0 r1 HL4 HR4 HW3 hss
            by_cases hc1 : cm = 1
            · subst hc1
              obtain ⟨hn1', hR5⟩ := HRX.out.tail.1 rfl
              subst hn1'
              have HR3 := Lib.hid hR5
              clear hR5
              go_wp2_with fail
              have HI := Lib.hid (hitems_any HL3.out.heap)
              go_wp2_with fail
              refine HI.out.mono ?_
              rintro e w4 ⟨l4, hh4, hl4, a4, c4, rfl, hs4, hg4, hn4, hb4⟩
              have HL4 := Lib.hid (HL3.out.new hb4)
              have HR4 := Lib.hid (HR3.out.new_ hb4)
              have hl4' : 0 = l4.length := HR3.out.len.trans hl4.symm
              have HLN := Lib.hid (hlen_any HL4.out.heap)
              rw [← HR3.out.len] at HLN
              have HO := Lib.hid (ordered_any (n := 0) (c := c4) hs4 hl4' (by omega) hh4)
              rw [← hl4']
              clear hh4 hl4 hs4 hg4 hn4 hb4 hl4' HI HL3 HR3
              go_wp2_with fail
              refine HLN.out.mono ?_
              rintro e w5 ⟨rfl, rfl⟩
              clear HLN
              go_wp2_with fail
              refine HO.out.mono ?_
              rintro e w6 ⟨rfl, hb6⟩
              have HL6 := Lib.hid (HL4.out.new hb6)
              have HR6 := Lib.hid (HR4.out.new_ hb6)
              clear hb6 HO HL4 HR4
              go_wp2_with fail
              go_roundw
              case rel => exact ⟨k + 1, v3, t, (some ⟨g2, o2, none⟩), 0, 0, rfl, by go_num, by omega, by omega, HL6.out, HR6.out⟩
              case measure => simp [intOf]; omega
            · have HR3 := Lib.hid (HRX.out.tail.2 hc1)
              go_wp2_with fail
              have HI := Lib.hid (hitems_any HL3.out.heap)
              go_wp2_with fail
              refine HI.out.mono ?_
              rintro e w4 ⟨l4, hh4, hl4, a4, c4, rfl, hs4, hg4, hn4, hb4⟩
              have HL4 := Lib.hid (HL3.out.new hb4)
              have HR4 := Lib.hid (HR3.out.new_ hb4)
              have hl4' : (nm - 1) = l4.length := HR3.out.len.trans hl4.symm
              have HLN := Lib.hid (hlen_any HL4.out.heap)
              rw [← HR3.out.len] at HLN
              have HO := Lib.hid (ordered_any (n := (nm - 1)) (c := c4) hs4 hl4' (by omega) hh4)
              rw [← hl4']
              clear hh4 hl4 hs4 hg4 hn4 hb4 hl4' HI HL3 HR3
              go_wp2_with fail
              refine HLN.out.mono ?_
              rintro e w5 ⟨rfl, rfl⟩
              clear HLN
              go_wp2_with fail
              refine HO.out.mono ?_
              rintro e w6 ⟨rfl, hb6⟩
              have HL6 := Lib.hid (HL4.out.new hb6)
              have HR6 := Lib.hid (HR4.out.new_ hb6)
              clear hb6 HO HL4 HR4
              go_wp2_with fail
              go_roundw
              case rel => exact ⟨k + 1, v3, t, (some ⟨g2, o2 + 2, none⟩), (nm - 1), (cm - 1), rfl, by go_num, by omega, by omega, HL6.out, HR6.out⟩
              case measure => simp [intOf]; omega
        · skip
          have HQ := Lib.hid (hdue_any HL1.out.heap x.time)
          go_wp2_with fail
          refine HQ.out.mono ?_
          rintro e w2 ⟨j, xd, v3, rfl, hD, hend⟩
          have hL2 := HL1.out.turn hD.but hD.heap
          have hR2 := HR1.out.turn HL1.out hD.but
          have hx2 := HX.out.but hD.but HNF.out
          obtain ⟨ad, cd, rfl, hsd, hgd⟩ := Shows.of_own hD.row
          have hjl : (m.take j).length = j := by rw [List.length_take]; have := hD.le; omega
          rw [hjl]
          have HJ := Lib.hid (And.intro hD.le hD.gone)
          have HJE := Lib.hid hend
          have HSD := Lib.hid hsd
          have HJL := Lib.hid hjl
          have HL2 := Lib.hid hL2
          have HX2 := Lib.hid hx2
          have HS2 := Lib.hid (show ∃ (i : Nat) (a : Option Addr) (n c : Nat), (Value.slice am nm cm) = .slice a n c ∧ i = 0 ∧ Ref w2 W.heap.size a n c (m.drop 0) from ⟨0, am, nm, cm, rfl, rfl, by rw [List.drop_zero]; exact hR2⟩)
          have HR2 := Lib.hid hR2
          have hnj : j ≤ 200 := by have := hD.le; have := HR1.out.len; omega
          clear hD hend hL2 hR2 hx2 hsd hgd hjl x0 x1 x2 HQ HL1 HR1 HX HS2 HNF HL HR
          obtain ⟨b7, hb7⟩ : ∃ b, b = wr.heap.size := ⟨_, rfl⟩
          rw [← hb7] at HX2 ⊢
          clear hb7
          go_wp2_with fail
          go_loopw [5, 11] (fun y z wr2 => ∃ (i : Nat) (a : Option Addr) (n' c : Nat), y = .slice a n' c ∧ z = .int .i64 (i : Int) ∧ i ≤ j ∧ n' ≤ k ∧ Ref wr2 W.heap.size a n' c (m.drop i) ∧ But (fun _ => False) w2 wr2) (fun _ z _ => j - (intOf z).toNat)
          case atStart => exact ⟨0, _, _, _, rfl, rfl, by omega, hnm, HR2.out, But.refl _ _⟩
          case round =>
            obtain ⟨i, a5, n5, c5, rfl, rfl, hi, hn5, hR, hB⟩ := hrel
            have HRI := Lib.hid hR
            have HBI := Lib.hid hB
            by_cases hij : i < j
            · obtain ⟨y, t, hdr⟩ : ∃ y t, m.drop i = y :: t := ⟨_, _, List.drop_eq_getElem_cons (by have := HJ.out.1; omega)⟩
              obtain ⟨hy, hil, hdr1, -⟩ := look_drop hdr
              rw [hdr] at hR
              obtain ⟨g4, o4, ha4, r0, r1⟩ := hR.first
              obtain ⟨g3, o3, ha3, hg3, hr3⟩ := HSD.out.cells (i := i) (by rw [HJL.out]; exact hij)
              have hlt3 : look (m.take j) i = y := by rw [← hy]; simp [look, List.getD, List.getElem?_take, hij]
              rw [hlt3] at hr3
              have d0 : wr.cell? ⟨g3, o3 + i * 2, none⟩ = some (.int .u64 (y.time : Int)) := (hB.cell (p := ⟨g3, o3 + i * 2, none⟩) hg3 (fun h => h)).trans (hr3 0 _ rfl)
              have d1 : wr.cell? ⟨g3, o3 + i * 2 + 1, none⟩ = some (.string y.key) := (hB.cell (p := ⟨g3, o3 + i * 2 + 1, none⟩) hg3 (fun h => h)).trans (hr3 1 _ rfl)
              have xx := HX2.out.but hB (fun h => h)
              have x4 : wr.cell? ⟨b7, 1, none⟩ = some (.int .u64 (x.time : Int)) := xx.cell 1
              have e4 := fun q => show (wr.drewN q).cell? ⟨b7, 1, none⟩ = some (.int .u64 (x.time : Int)) from x4
              have s0 := fun q => show (wr.drewN q).cell? ⟨g4, o4, none⟩ = some (.int .u64 (y.time : Int)) from r0
              have s1 := fun q => show (wr.drewN q).cell? ⟨g4, o4 + 1, none⟩ = some (.string y.key) from r1
              have f0 := fun q => show (wr.drewN q).cell? ⟨g3, o3 + i * 2, none⟩ = some (.int .u64 (y.time : Int)) from d0
              have f1 := fun q => show (wr.drewN q).cell? ⟨g3, o3 + i * 2 + 1, none⟩ = some (.string y.key) from d1
              have hle : y.time ≤ x.time := by rw [← hy]; exact HJ.out.2 i hij
              have hgt : ¬ (x.time < y.time) := by omega
              have hn1 := hR.len
              simp at hn1
              have hnp : 0 < n5 := by omega
              have hnp2 : (0 : Int) < (n5 : Int) := by omega
              have hnz : ((n5 : Int) == 0) = false := beq_eq_false_iff_ne.2 (by omega)
              have hij2 : (i : Int) < (j : Int) := by omega
              have hss : (y.key.toList == y.key.toList) = true := by simp
              have HR4 := Lib.hid hR
              have HDR := Lib.hid hdr1
              subst ha4
              rw [ha3]
              clear hR hB hdr hy hil hdr1 ha3 hg3 hr3 hlt3 xx hle hn1 HRI
              go_wp2_with fail
              go_quiet (fail)
              have HRX := Lib.hid (HR4.out.new_ ((But.refl (fun _ => False) wr).drewN nq))
              have HB7 := Lib.hid (HBI.out.trans ((But.refl (fun _ => False) wr).drewN nq) (fun _ _ h => h))
              generalize wr.drewN nq = w7 at HRX HB7 ⊢
              clear r0 r1 d0 d1 x4 e4 s0 s1 f0 f1 hss HR4 HBI
              by_cases hc1 : c5 = 1
              · subst hc1
                obtain ⟨hn1', hR5⟩ := HRX.out.tail.1 rfl
                subst hn1'
                have HR3 := Lib.hid hR5
                clear hR5
                go_wp2_with fail
                go_roundw
                case rel => exact ⟨i + 1, _, 0, 0, rfl, by go_num, by omega, by omega, by rw [HDR.out]; exact HR3.out, HB7.out⟩
                case measure => simp [intOf]; omega
              · have HR3 := Lib.hid (HRX.out.tail.2 hc1)
                go_wp2_with fail
                go_roundw
                case rel => exact ⟨i + 1, _, n5 - 1, c5 - 1, rfl, by go_num, by omega, by omega, by rw [HDR.out]; exact HR3.out, HB7.out⟩
                case measure => simp [intOf]; omega
            · have hie : i = j := by omega
              subst hie
              have hL3 := HL2.out.new hB
              cases hdr : m.drop i with
              | nil =>
                rw [hdr] at hR hL3
                have hn0 : n5 = 0 := hR.len
                subst hn0
                have HL3 := Lib.hid hL3
                have HR3 := Lib.hid hR
                clear hR hL3 hB hdr HRI
                go_wp2_with fail
                have HI := Lib.hid (hitems_any HL3.out.heap)
                go_wp2_with fail
                refine HI.out.mono ?_
                rintro e w4 ⟨l4, hh4, hl4, a4, c4, rfl, hs4, hg4, hn4, hb4⟩
                have HL4 := Lib.hid (HL3.out.new hb4)
                have HR4 := Lib.hid (HR3.out.new_ hb4)
                have hl4' : 0 = l4.length := HR3.out.len.trans hl4.symm
                have HLN := Lib.hid (hlen_any HL4.out.heap)
                rw [← HR3.out.len] at HLN
                have HO := Lib.hid (ordered_any (n := 0) (c := c4) hs4 hl4' (by omega) hh4)
                rw [← hl4']
                clear hh4 hl4 hs4 hg4 hn4 hb4 hl4' HI HL3 HR3
                go_wp2_with fail
                refine HLN.out.mono ?_
                rintro e w5 ⟨rfl, rfl⟩
                clear HLN
                go_wp2_with fail
                refine HO.out.mono ?_
                rintro e w6 ⟨rfl, hb6⟩
                have HL6 := Lib.hid (HL4.out.new hb6)
                have HR6 := Lib.hid (HR4.out.new_ hb6)
                clear hb6 HO HL4 HR4
                go_wp2_with fail
                go_roundw
                case rel => exact ⟨k + 1, v3, ([] : List It), a5, 0, c5, rfl, by go_num, by omega, by omega, HL6.out, HR6.out⟩
                case measure => simp [intOf]; omega
              | cons y t =>
                obtain ⟨hy, hil, -, -⟩ := look_drop hdr
                rw [hdr] at hR hL3
                obtain ⟨g4, o4, ha4, r0, r1⟩ := hR.first
                have xx := HX2.out.but hB (fun h => h)
                have x4 : wr.cell? ⟨b7, 1, none⟩ = some (.int .u64 (x.time : Int)) := xx.cell 1
                have e4 := fun q => show (wr.drewN q).cell? ⟨b7, 1, none⟩ = some (.int .u64 (x.time : Int)) from x4
                have s0 := fun q => show (wr.drewN q).cell? ⟨g4, o4, none⟩ = some (.int .u64 (y.time : Int)) from r0
                have hnle : ¬ (y.time ≤ x.time) := by have := HJE.out hil; rw [hy] at this; omega
                have hn1 := hR.len
                simp at hn1
                have hnp : 0 < n5 := by omega
                have hnp2 : (0 : Int) < (n5 : Int) := by omega
                have HL4 := Lib.hid hL3
                have HR4 := Lib.hid hR
                subst ha4
                clear hR hL3 hB hdr hy hil xx hn1 HRI r1
                go_wp2_with fail
                go_quiet (fail)
                have HL3 := Lib.hid (HL4.out.new ((But.refl (fun _ => False) wr).drewN nq))
                have HR3 := Lib.hid (HR4.out.new_ ((But.refl (fun _ => False) wr).drewN nq))
                generalize wr.drewN nq = w7 at HL3 HR3 ⊢
                clear r0 x4 e4 s0 HL4 HR4
                go_wp2_with fail
                have HI := Lib.hid (hitems_any HL3.out.heap)
                go_wp2_with fail
                refine HI.out.mono ?_
                rintro e w4 ⟨l4, hh4, hl4, a4, c4, rfl, hs4, hg4, hn4, hb4⟩
                have HL4 := Lib.hid (HL3.out.new hb4)
                have HR4 := Lib.hid (HR3.out.new_ hb4)
                have hl4' : n5 = l4.length := HR3.out.len.trans hl4.symm
                have HLN := Lib.hid (hlen_any HL4.out.heap)
                rw [← HR3.out.len] at HLN
                have HO := Lib.hid (ordered_any (n := n5) (c := c4) hs4 hl4' (by omega) hh4)
                rw [← hl4']
                clear hh4 hl4 hs4 hg4 hn4 hb4 hl4' HI HL3 HR3
                go_wp2_with fail
                refine HLN.out.mono ?_
                rintro e w5 ⟨rfl, rfl⟩
                clear HLN
                go_wp2_with fail
                refine HO.out.mono ?_
                rintro e w6 ⟨rfl, hb6⟩
                have HL6 := Lib.hid (HL4.out.new hb6)
                have HR6 := Lib.hid (HR4.out.new_ hb6)
                clear hb6 HO HL4 HR4
                go_wp2_with fail
                go_roundw
                case rel => exact ⟨k + 1, v3, (y :: t), (some ⟨g4, o4, none⟩), n5, c5, rfl, by go_num, by omega, by omega, HL6.out, HR6.out⟩
                case measure => simp [intOf]; omega
    · clear hL hR
      go_wp2_with fail
      go_ret
      exact ⟨rfl, HL.out.but⟩
set_option maxRecDepth 100000 in
set_option maxHeartbeats 1000000 in
theorem plays_away (a : Option Addr) (n c : Nat) (hl : 200 < n) (hn : n ≤ 9223372036854775807) (W : World) :
    Calls Try.prog 3 #[.slice a n c] W fun e w' => e = .returned (.bool true) ∧ But (fun _ => False) W w' := by
  have HU := Lib.hid (up_any W)
  go_enter Try.func3, Try.ntmps3
  go_wp2_with fail
  refine HU.out.mono ?_
  rintro e w1 ⟨rfl, hB1⟩
  have HNW := Lib.hid (hnew_any w1)
  have HB1 := Lib.hid hB1
  clear hB1 HU
  go_wp2_with fail
  refine HNW.out.mono ?_
  rintro e w2 ⟨rfl, hM, hB⟩
  have HB := Lib.hid (HB1.out.trans' hB)
  clear hM hB HNW HB1
  have hl2 : (200 : Int) < (n : Int) := by omega
  go_wp2_with fail
  go_ret
  exact ⟨rfl, HB.out⟩
end
end Go.Proofs.Ytdkknjgjogekiaa.Exp
