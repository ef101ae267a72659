/- What bytes are read as a response: the walk of command.readResponse. -/
import Derived.Test.YtbdbbnpkekcefaaCmdNextOps
import Derived.Test.YtbdbbnpkekcefaaCmdTold
import Derived.Test.YtbdbbnpkekcefaaLate
namespace Go.Proofs.Ytbdbbnpkekcefaa.Cmd
open Go.Proofs.Ytbdbbnpkekcefaa.Mem Go.Proofs.Ytbdbbnpkekcefaa.Pack
open Go.ChangeShapes Go.WideShapes Go.ChangeAt Go.RowKit
set_option linter.unusedVariables false
set_option linter.unusedSimpArgs false

def zresp : Array Value := #[.int .i64 0, .int .i64 0, .int .u32 0, .int .u32 0, .int .u64 0, .int .u64 0, .string ⟨#[]⟩, .slice none 0 0, .bool false, .int .i64 0, .int .i64 0, .int .i64 0, .int .u64 0, .slice none 0 0]
theorem resp_sz : (Try.prog.info? 49).map (·.size) = some 14 := by kernel_rfl
theorem pair_size : (Try.prog.info? 52).map (·.size) = some 2 := by kernel_rfl
theorem pair_info : (Try.prog.info? 52).map (fun i => (i.zero, i.size, i.bytes)) = some (some (.agg #[.string ⟨#[]⟩, .string ⟨#[]⟩]), 2, 32) := by kernel_rfl
theorem int_info : (Try.prog.info? 3).map (fun i => (i.zero, i.size, i.bytes)) = some (some (.int .i64 0), 1, 8) := by kernel_rfl
def RespIs (w : World) (e : Ending) (w' : World) : Prop := ∃ (r : Rs) (pv bv : Value), e = .returned (rsv r pv bv) ∧ RsSo r ∧ ShowsFrom pcells 2 w.heap.size w' pv r.page ∧ ShowsFrom icells 1 w.heap.size w' bv r.buckets ∧ Below w.heap.size w w'
theorem Rdg.other {p D base : Nat} {t : TypeId} {R B : Nat} {zs cs : Array Value} {w0 w w' : World} {P : Pos} {S : Nat → Prop} (h : Rdg p D t R B zs w0 w P cs) (hb : But S w w') (hS : ∀ k, S k → base ≤ k) (h1 : p < base) (h2 : D < base) (h3 : R < base) (h4 : B < base) (h5 : w0.heap.size ≤ base) : Rdg p D t R B zs w0 w' P cs :=
  ⟨Rd.but (S := S) h.rd hb (fun e => by have := hS _ e; omega) (fun e => by have := hS _ e; omega), h.res.but hb (fun e => by have := hS _ e; omega), h.box.but hb (fun e => by have := hS _ e; omega), h.but.trans hb (fun i hi e => by have := hS _ e; omega), h.lowR, h.lowB, h.ne, h.pR, h.pB⟩
theorem own_slc {w : World} {base size n : Nat} {e : TypeId} {v : Value} {xs : List Value} (h : w.ownsRow base e size v n xs) : ∃ a c, v = .slice a n c := by
  rcases h.2 with ⟨hv, hn⟩ | ⟨g, cap, cur, hv, _⟩
  · exact ⟨none, 0, by rw [hv, hn]⟩
  · exact ⟨_, _, hv⟩
theorem i64_byte' {n : Nat} (h : n < 256) : I64 (n : Int) := by unfold I64; omega
theorem zeroTok_is' : TokIs zeroTok := ⟨by unfold zeroTok; simp, by unfold zeroTok; simp, by unfold zeroTok; simp, by unfold zeroTok; simp⟩
set_option maxRecDepth 100000 in
set_option maxHeartbeats 8000000 in
theorem resp_any (a : Option Addr) (cap : Nat) (zs : List Int) (w : World) (h : Row w a zs.length zs) (hn : a = none → cap = 0) (hl : zs.length ≤ 1073741824) :
    Calls Try.prog 39 #[.slice a zs.length cap] w fun e w' => RespIs w e w' := by
  obtain ⟨P0, hP⟩ : ∃ P : Pos, P = ⟨zs, false⟩ := ⟨_, rfl⟩
  have b1 : Bytes P0.zs := by rw [hP]; exact h.2.1
  have hr0 : ∀ t cs, Row (w.alloc (.cells cs t)) a zs.length zs := fun t cs => h.below ((Below.refl _ _).alloc (Nat.le_refl _) _)
  have hnew := fun t cs => new_any a zs.length cap zs _ (hr0 t cs) hn hl
  have HNEW := Lib.hid hnew
  have HPP := Lib.hid hP
  obtain ⟨i0, hi0, hz0, hz1, hz2⟩ := info_parts pair_info
  obtain ⟨j0, hj0, hy0, hy1, hy2⟩ := info_parts int_info
  have l1 := num1_lt b1
  have k1 := fun p D u => rdP_number p D P0 1 (by omega) (by omega) u
  obtain ⟨n1, hn1⟩ : ∃ n, n = P0.num 1 := ⟨_, rfl⟩
  obtain ⟨p1, hp1⟩ : ∃ x, x = P0.skip 1 := ⟨_, rfl⟩
  have b2 : Bytes p1.zs := by rw [hp1]; exact skip_bytes b1 1
  rw [← hn1] at k1 l1
  rw [← hp1] at k1
  clear h hn hl hr0 hnew hP hn1 hp1 b1
  go_enter Try.func39, Try.ntmps39
  go_wp2_with fail
  refine (HNEW.out _ _).mono ?_
  rintro e v1 ⟨p, rfl, hp, D, hrd, hb1, hD1, hD2⟩
  have hres := (Blk.new w 49 #[.int .i64 0, .int .i64 0, .int .u32 0, .int .u32 0, .int .u64 0, .int .u64 0, .string ⟨#[]⟩, .slice none 0 0, .bool false, .int .i64 0, .int .i64 0, .int .i64 0, .int .u64 0, .slice none 0 0]).but (But.of_new hb1 (S := fun _ => False)) (fun e => e)
  have hbut1 : But (fun k => k = p) w v1 := ((But.refl (fun k => k = p) w).alloc (.cells #[.int .i64 0, .int .i64 0, .int .u32 0, .int .u32 0, .int .u64 0, .int .u64 0, .string ⟨#[]⟩, .slice none 0 0, .bool false, .int .i64 0, .int .i64 0, .int .i64 0, .int .u64 0, .slice none 0 0] 49)).trans (But.of_new (S := fun _ => False) hb1) (fun _ _ e => e.elim)
  have hsz : w.heap.size < p ∧ w.heap.size < D := by simp at hp hD1; omega
  have HP := Lib.hid hsz
  have hrd1 : RdP p D v1 P0 := by rw [HPP.out]; exact hrd
  clear hrd hb1 hp hD1 HNEW
  go_wp2_with fail
  refine (k1 p D _ hrd1).mono ?_
  rintro e w1 ⟨rfl, hr, hb⟩
  have hres1 := hres.but hb (fun e => by omega)
  have hbut2 := hbut1.trans' hb
  have hD3 : D < w1.heap.size := by have := hr.lt; omega
  have hpw : p < w1.heap.size := hr.lt
  have hs1 := Rdg.begin hr hres1 hbut2 (Nat.le_refl _) (by omega) hD3 #[.int .i64 (n1 : Int), .int .i64 0, .int .u32 0, .int .u32 0, .int .u64 0, .int .u64 0, .string ⟨#[]⟩, .slice none 0 0, .bool false, .int .i64 0, .int .i64 0, .int .i64 0, .int .u64 0, .slice none 0 0]
  have hww : w.heap.size ≤ w1.heap.size := hbut2.size
  have c0 : World.cell? _ ⟨w1.heap.size, 0, none⟩ = some (.int .i64 (n1 : Int)) := hs1.cell 0 rfl
  clear hr hb hres hres1 hbut1 hbut2 hrd1 k1
  have hc64 : I64 (n1 : Int) := i64_byte' l1
  by_cases hz : n1 = 0
  rotate_left
  · have htst : ((n1 : Int) != 0) = true := bne_iff_ne.2 (by omega)
    clear hz
    have HBX := Lib.hid (show _ = _ from hs1.box)
    have HRX := Lib.hid (show _ = _ from hs1.res)
    have HLAST := Lib.hid (hs1.last #[.int .i64 (n1 : Int), .int .i64 0, .int .u32 0, .int .u32 0, .int .u64 0, .int .u64 0, .string ⟨#[]⟩, .slice none 0 0, .bool false, .int .i64 0, .int .i64 0, .int .i64 0, .int .u64 0, .slice none 0 0])
    clear hs1
    have hone : (#[.int .i64 (n1 : Int), .int .i64 0, .int .u32 0, .int .u32 0, .int .u64 0, .int .u64 0, .string ⟨#[]⟩, .slice none 0 0, .bool false, .int .i64 0, .int .i64 0, .int .i64 0, .int .u64 0, .slice none 0 0] : Array Value).all (fun x => x.oneCell') = true := by simp [Value.oneCell']
    have HONE := Lib.hid hone
    clear hone
    have HOLD := Lib.hid (show (#[.int .i64 0, .int .i64 0, .int .u32 0, .int .u32 0, .int .u64 0, .int .u64 0, .string ⟨#[]⟩, .slice none 0 0, .bool false, .int .i64 0, .int .i64 0, .int .i64 0, .int .u64 0, .slice none 0 0] : Array Value).size = (#[.int .i64 (n1 : Int), .int .i64 0, .int .u32 0, .int .u32 0, .int .u64 0, .int .u64 0, .string ⟨#[]⟩, .slice none 0 0, .bool false, .int .i64 0, .int .i64 0, .int .i64 0, .int .u64 0, .slice none 0 0] : Array Value).size by simp)
    have HSZ := Lib.hid (resp_sz.trans (show some 14 = some (#[.int .i64 (n1 : Int), .int .i64 0, .int .u32 0, .int .u32 0, .int .u64 0, .int .u64 0, .string ⟨#[]⟩, .slice none 0 0, .bool false, .int .i64 0, .int .i64 0, .int .i64 0, .int .u64 0, .slice none 0 0] : Array Value).size by simp))
    go_wp2_with (first
      | (refine wpList_load_row rfl 49 _ rfl w1.heap.size rfl 49 _ (0, 0) _ HBX.out Try.underlying49 rfl HSZ.out ?_)
      | (refine wpList_store_rowTo rfl 49 _ _ rfl rfl w.heap.size #[.int .i64 (n1 : Int), .int .i64 0, .int .u32 0, .int .u32 0, .int .u64 0, .int .u64 0, .string ⟨#[]⟩, .slice none 0 0, .bool false, .int .i64 0, .int .i64 0, .int .i64 0, .int .u64 0, .slice none 0 0] rfl rfl 49 #[.int .i64 0, .int .i64 0, .int .u32 0, .int .u32 0, .int .u64 0, .int .u64 0, .string ⟨#[]⟩, .slice none 0 0, .bool false, .int .i64 0, .int .i64 0, .int .i64 0, .int .u64 0, .slice none 0 0] HRX.out HSZ.out HOLD.out HONE.out ?_))
    refine bodyPost_ret (results_cell_row rfl _ _ w.heap.size 49 #[.int .i64 (n1 : Int), .int .i64 0, .int .u32 0, .int .u32 0, .int .u64 0, .int .u64 0, .string ⟨#[]⟩, .slice none 0 0, .bool false, .int .i64 0, .int .i64 0, .int .i64 0, .int .u64 0, .slice none 0 0] (0, 0) _ rfl (setRow_heap _ _ _ _ _ _ HRX.out) Try.underlying49 rfl HSZ.out) rfl ?_
    have hwb : Below w.heap.size w _ := (HLAST.out.2).below (Nat.le_refl _) (fun k hk => by have := HP.out; omega)
    exact ⟨⟨(n1 : Int), zeroTok, 0, ⟨#[]⟩, [], false, 0, 0, 0, 0, []⟩, .slice none 0 0, .slice none 0 0, rfl, ⟨hc64, zeroTok_is'.so, by simp, by simp only; decide, (fun x hx => by cases hx), by simp, by simp, by simp⟩, ShowsFrom.nil _ _ _ _, ShowsFrom.nil _ _ _ _, hwb⟩
  subst hz
  have HC64 := Lib.hid hc64
  clear hc64 l1
  have ht := rdTok_is b2
  have k2 := fun p D u => nextToken_any p D p1 u
  obtain ⟨⟨tb, tg, ts, tx⟩, hn2⟩ : ∃ n, n = rdTok p1 := ⟨_, rfl⟩
  obtain ⟨p2, hp2⟩ : ∃ x, x = endTok p1 := ⟨_, rfl⟩
  rw [← hn2] at ht
  rw [← hn2, ← hp2] at k2
  simp only [tv] at k2
  have b3' : Bytes p2.zs := by rw [hp2]; exact endTok_bytes b2
  clear hn2 hp2
  go_wp2_with fail
  refine (k2 p D _ hs1.rd (by have := hs1.box.lt; omega)).mono ?_
  rintro e u2 ⟨rfl, hr, hb⟩
  have hr2 := hs1.read hr hb
  clear hr hb hs1 k2
  have c1 : u2.cell? ⟨w1.heap.size, 1, none⟩ = some (.int .i64 0) := hr2.cell 1 rfl
  have f1 : u2.frozen? ⟨w1.heap.size, 1, none⟩ = false := hr2.frozen 1
  have c2 : u2.cell? ⟨w1.heap.size, 2, none⟩ = some (.int .u32 0) := hr2.cell 2 rfl
  have f2 : u2.frozen? ⟨w1.heap.size, 2, none⟩ = false := hr2.frozen 2
  have c3 : u2.cell? ⟨w1.heap.size, 3, none⟩ = some (.int .u32 0) := hr2.cell 3 rfl
  have f3 : u2.frozen? ⟨w1.heap.size, 3, none⟩ = false := hr2.frozen 3
  have c4 : u2.cell? ⟨w1.heap.size, 4, none⟩ = some (.int .u64 0) := hr2.cell 4 rfl
  have f4 : u2.frozen? ⟨w1.heap.size, 4, none⟩ = false := hr2.frozen 4
  have hq0 := hr2.set 1 (.int .i64 tb) (cs' := #[.int .i64 0, .int .i64 tb, .int .u32 0, .int .u32 0, .int .u64 0, .int .u64 0, .string ⟨#[]⟩, .slice none 0 0, .bool false, .int .i64 0, .int .i64 0, .int .i64 0, .int .u64 0, .slice none 0 0]) rfl
  have hq1 := hq0.set 2 (.int .u32 (tg : Int)) (cs' := #[.int .i64 0, .int .i64 tb, .int .u32 (tg : Int), .int .u32 0, .int .u64 0, .int .u64 0, .string ⟨#[]⟩, .slice none 0 0, .bool false, .int .i64 0, .int .i64 0, .int .i64 0, .int .u64 0, .slice none 0 0]) rfl
  have hq2 := hq1.set 3 (.int .u32 (ts : Int)) (cs' := #[.int .i64 0, .int .i64 tb, .int .u32 (tg : Int), .int .u32 (ts : Int), .int .u64 0, .int .u64 0, .string ⟨#[]⟩, .slice none 0 0, .bool false, .int .i64 0, .int .i64 0, .int .i64 0, .int .u64 0, .slice none 0 0]) rfl
  have hq3 := hq2.set 4 (.int .u64 (tx : Int)) (cs' := #[.int .i64 0, .int .i64 tb, .int .u32 (tg : Int), .int .u32 (ts : Int), .int .u64 (tx : Int), .int .u64 0, .string ⟨#[]⟩, .slice none 0 0, .bool false, .int .i64 0, .int .i64 0, .int .i64 0, .int .u64 0, .slice none 0 0]) rfl
  have hs2 := hq3
  clear hq0 hq1 hq2 hq3 hr2
  have k3 := fun p D u => rdP_number p D p2 8 (by omega) (by omega) u
  obtain ⟨n3, hn3⟩ : ∃ n, n = p2.num 8 := ⟨_, rfl⟩
  obtain ⟨p3, hp3⟩ : ∃ x, x = p2.skip 8 := ⟨_, rfl⟩
  have l3 := num8_lt b3'
  rw [← hn3] at l3
  rw [← hn3, ← hp3] at k3
  have b4' : Bytes p3.zs := by rw [hp3]; exact skip_bytes b3' 8
  clear hn3 hp3
  go_wp2_with fail
  refine (k3 p D _ hs2.rd).mono ?_
  rintro e u3 ⟨rfl, hr, hb⟩
  have hr3 := hs2.read hr hb
  clear hr hb hs2 k3
  have c5 : u3.cell? ⟨w1.heap.size, 5, none⟩ = some (.int .u64 0) := hr3.cell 5 rfl
  have f5 : u3.frozen? ⟨w1.heap.size, 5, none⟩ = false := hr3.frozen 5
  have hq0 := hr3.set 5 (.int .u64 (n3 : Int)) (cs' := #[.int .i64 0, .int .i64 tb, .int .u32 (tg : Int), .int .u32 (ts : Int), .int .u64 (tx : Int), .int .u64 (n3 : Int), .string ⟨#[]⟩, .slice none 0 0, .bool false, .int .i64 0, .int .i64 0, .int .i64 0, .int .u64 0, .slice none 0 0]) rfl
  have hs3 := hq0
  clear hq0 hr3
  have k4 := fun p D u => rdP_text p D p3 u
  obtain ⟨n4, hn4⟩ : ∃ n, n = p3.txt := ⟨_, rfl⟩
  obtain ⟨p4, hp4⟩ : ∃ x, x = p3.past := ⟨_, rfl⟩
  have l4 := (txt_le p3 b4').1
  rw [← hn4] at l4
  rw [← hn4, ← hp4] at k4
  have b5' : Bytes p4.zs := by rw [hp4]; exact past_bytes b4'
  clear hn4 hp4
  go_wp2_with fail
  refine (k4 p D _ hs3.rd).mono ?_
  rintro e u4 ⟨rfl, hr, hb⟩
  have hr4 := hs3.read hr hb
  clear hr hb hs3 k4
  have c6 : u4.cell? ⟨w1.heap.size, 6, none⟩ = some (.string ⟨#[]⟩) := hr4.cell 6 rfl
  have f6 : u4.frozen? ⟨w1.heap.size, 6, none⟩ = false := hr4.frozen 6
  have hq0 := hr4.set 6 (.string n4) (cs' := #[.int .i64 0, .int .i64 tb, .int .u32 (tg : Int), .int .u32 (ts : Int), .int .u64 (tx : Int), .int .u64 (n3 : Int), .string n4, .slice none 0 0, .bool false, .int .i64 0, .int .i64 0, .int .i64 0, .int .u64 0, .slice none 0 0]) rfl
  have hs4 := hq0
  clear hq0 hr4
  have k5 := fun p D u => rdP_number p D p4 1 (by omega) (by omega) u
  obtain ⟨n5, hn5⟩ : ∃ n, n = p4.num 1 := ⟨_, rfl⟩
  obtain ⟨p5, hp5⟩ : ∃ x, x = p4.skip 1 := ⟨_, rfl⟩
  have l5 := num1_lt b5'
  rw [← hn5] at l5
  rw [← hn5, ← hp5] at k5
  have b6' : Bytes p5.zs := by rw [hp5]; exact skip_bytes b5' 1
  clear hn5 hp5
  go_wp2_with fail
  refine (k5 p D _ hs4.rd).mono ?_
  rintro e u5 ⟨rfl, hr, hb⟩
  have hs5 := hs4.read hr hb
  have HTK := Lib.hid (And.intro ht (And.intro l3 l4))
  clear hr hb hs4 k5 ht l3 l4 b2 b3' b4' b5'
  have HS5 := Lib.hid (And.intro hs5 b6')
  clear hs5 b6'
  go_wp2_with fail
  go_loopw [5, 27] (fun xx i wr => ∃ (k : Nat) (va : Option Addr) (vc : Nat) (pg : List (ByteArray × ByteArray)) (P : Pos), k ≤ n5 ∧ i = .int .u64 (k : Int) ∧ pg.length = k ∧ (∀ x ∈ pg, x.1.size ≤ 65535 ∧ x.2.size ≤ 65535) ∧ Rdg p D 49 w.heap.size w1.heap.size #[.int .i64 0, .int .i64 0, .int .u32 0, .int .u32 0, .int .u64 0, .int .u64 0, .string ⟨#[]⟩, .slice none 0 0, .bool false, .int .i64 0, .int .i64 0, .int .i64 0, .int .u64 0, .slice none 0 0] w wr P #[.int .i64 0, .int .i64 tb, .int .u32 (tg : Int), .int .u32 (ts : Int), .int .u64 (tx : Int), .int .u64 (n3 : Int), .string n4, .slice va k vc, .bool false, .int .i64 0, .int .i64 0, .int .i64 0, .int .u64 0, .slice none 0 0] ∧ Bytes P.zs ∧ wr.ownsRow (w1.heap.size + 1) 52 2 (.slice va k vc) k (pg.flatMap pcells) ∧ (w1.heap.size + 1) ≤ wr.heap.size) (fun _ i _ => n5 - (intOf i).toNat)
  case atStart => exact ⟨0, none, 0, [], p5, Nat.zero_le _, rfl, rfl, fun x hx => absurd hx List.not_mem_nil, HS5.out.1, HS5.out.2, World.ownsRow_nil _ _ _ _, Nat.succ_le_of_lt HS5.out.1.box.lt⟩
  case round =>
    obtain ⟨k, va, vc, pg, P, hk, rfl, hpl, hps, hsC, hbP, ho, hbs⟩ := hrel
    clear HS5
    by_cases hlt : k < n5
    · have kt1 := fun u => rdP_text p D P u
      have kt2 := fun u => rdP_text p D P.past u
      have hx1 := (txt_le P hbP).1
      have bq1 := past_bytes hbP
      have hx2 := (txt_le P.past bq1).1
      have bq2 := past_bytes bq1
      obtain ⟨x1, he1⟩ : ∃ n, n = P.txt := ⟨_, rfl⟩
      obtain ⟨q1, hq1⟩ : ∃ n, n = P.past := ⟨_, rfl⟩
      rw [← he1] at kt1 hx1
      rw [← hq1] at kt1 kt2 hx2 bq2
      obtain ⟨x2, he2⟩ : ∃ n, n = q1.txt := ⟨_, rfl⟩
      obtain ⟨q2, hq2⟩ : ∃ n, n = q1.past := ⟨_, rfl⟩
      rw [← he2] at kt2 hx2
      rw [← hq2] at kt2 bq2
      have HPG := Lib.hid (And.intro hpl (And.intro hps bq2))
      have hXb : Blk (wr.alloc (.cells #[.string ⟨#[]⟩, .string ⟨#[]⟩] 52)) wr.heap.size 52 #[.string ⟨#[]⟩, .string ⟨#[]⟩] := Blk.new _ _ _
      have hA := hsC.new (But.alloc (But.refl (fun _ => False) wr) (.cells #[.string ⟨#[]⟩, .string ⟨#[]⟩] 52))
      have hoA := ownsRow_alloc ho (.cells #[.string ⟨#[]⟩, .string ⟨#[]⟩] 52)
      have hvX : ∀ j, (Value.slice va k vc).ownBlock = some j → (w1.heap.size + 1) ≤ j ∧ j < wr.heap.size := fun j hj => ho.lt j hj
      have HV := Lib.hid hvX
      clear hsC he1 hq1 he2 hq2 hbP bq1 bq2 hpl hps ho hvX
      go_wp2_with fail
      refine (kt1 _ hA.rd).mono ?_
      rintro e y1 ⟨rfl, hr, hb⟩
      have hB := hA.read hr hb
      have hX1 := hXb.but hb (fun e => by omega)
      have ho1 := ownsRow_but hoA hb (fun j hj e => by have := (HV.out j hj).1; omega)
      have z0 : y1.cell? ⟨wr.heap.size, 0, none⟩ = some (.string ⟨#[]⟩) := (hX1.cell 0).trans rfl
      have g0 : y1.frozen? ⟨wr.heap.size, 0, none⟩ = false := hX1.frozen 0
      have hXs := hX1.set_ 0 (.string x1)
      have hbs1 : But (fun j => j = wr.heap.size) y1 (y1.setCell ⟨wr.heap.size, 0, none⟩ (.string x1)) := (But.refl (fun j => j = wr.heap.size) y1).setCell (p := ⟨wr.heap.size, 0, none⟩) rfl _
      have hB1 := hB.other (base := (w1.heap.size + 1)) hbs1 (fun j e => by omega) (by omega) (by omega) (by omega) (by omega) (by omega)
      have ho1s := ownsRow_but ho1 hbs1 (fun j hj e => by have := (HV.out j hj).2; omega)
      clear hr hb hA kt1 hB hX1 hoA ho1 hXb hbs1
      go_wp2_with fail
      clear z0 g0
      refine (kt2 _ hB1.rd).mono ?_
      rintro e y2 ⟨rfl, hr, hb⟩
      have hB2 := hB1.read hr hb
      have hX2 := hXs.but hb (fun e => by omega)
      have ho2 := ownsRow_but ho1s hb (fun j hj e => by have := (HV.out j hj).1; omega)
      have z1 : y2.cell? ⟨wr.heap.size, 1, none⟩ = some (.string ⟨#[]⟩) := (hX2.cell 1).trans rfl
      have g1 : y2.frozen? ⟨wr.heap.size, 1, none⟩ = false := hX2.frozen 1
      have hXt := hX2.set_ 1 (.string x2)
      have hbs2 : But (fun j => j = wr.heap.size) y2 (y2.setCell ⟨wr.heap.size, 1, none⟩ (.string x2)) := (But.refl (fun j => j = wr.heap.size) y2).setCell (p := ⟨wr.heap.size, 1, none⟩) rfl _
      have hB3 := hB2.other (base := (w1.heap.size + 1)) hbs2 (fun j e => by omega) (by omega) (by omega) (by omega) (by omega) (by omega)
      have ho3 := ownsRow_but ho2 hbs2 (fun j hj e => by have := (HV.out j hj).2; omega)
      obtain ⟨y3, hy3⟩ : ∃ W, W = y2.setCell ⟨wr.heap.size, 1, none⟩ (.string x2) := ⟨_, rfl⟩
      have HY3 := Lib.hid hy3
      have t7 : (y2.setCell ⟨wr.heap.size, 1, none⟩ (.string x2)).cell? ⟨w1.heap.size, 7, none⟩ = some (.slice va k vc) := hB3.cell 7 rfl
      have t0 : (y2.setCell ⟨wr.heap.size, 1, none⟩ (.string x2)).cell? ⟨wr.heap.size, 0, none⟩ = some (.string x1) := (hXt.cell 0).trans rfl
      have t1 : (y2.setCell ⟨wr.heap.size, 1, none⟩ (.string x2)).cell? ⟨wr.heap.size, 1, none⟩ = some (.string x2) := (hXt.cell 1).trans rfl
      have hszs : (w1.heap.size + 1) ≤ (y2.setCell ⟨wr.heap.size, 1, none⟩ (.string x2)).heap.size := by have := hXt.lt; omega
      have HO3 := Lib.hid ho3
      have HB3 := Lib.hid hB3
      clear hr hb hB1 hB2 hB3 hX2 hXs hXt ho1s ho2 ho3 hbs2 kt2 hy3
      go_wp2_with (at_builtin; refine wpList_append_onto rfl (.tmp 36) (.tmp 38) _ rfl (w1.heap.size + 1) 52 i0 _ 2 32 Try.underlying46 hi0 hz0 hz1 hz2 rfl (by omega) (.slice va k vc) k (pg.flatMap pcells) rfl (ownsRow_alloc HO3.out _) (.slice (some ⟨y2.heap.size, 0, none⟩) 1 1) 1 (pcells (x1, x2)) rfl (sees_cells _ (pcells (x1, x2)) 2 rfl _ _ _ (by simp)) (by simp [pcells, Value.oneCell']) (by simp only [maxLen]; omega) (by omega) (Nat.le_trans hszs (by simp)) ?_; intro v5 w5 ho5 hon5; obtain ⟨a5, c5, hv5⟩ := own_slc ho5; subst hv5; have hon := hon5.of_alloc (fun j hj => (HO3.out.lt j hj).2); have hs5 := HB3.out.other (base := (w1.heap.size + 1)) hon.but (fun j e => (HO3.out.lt j e.symm).1) (by omega) (by omega) (by omega) (by omega) (by omega); have c7 : w5.cell? ⟨w1.heap.size, 7, none⟩ = some (.slice va k vc) := hs5.cell 7 rfl; have f7 : w5.frozen? ⟨w1.heap.size, 7, none⟩ = false := hs5.frozen 7)
      have hs6 := hs5.set 7 (.slice a5 (k + 1) c5) (cs' := #[.int .i64 0, .int .i64 tb, .int .u32 (tg : Int), .int .u32 (ts : Int), .int .u64 (tx : Int), .int .u64 (n3 : Int), .string n4, .slice a5 (k + 1) c5, .bool false, .int .i64 0, .int .i64 0, .int .i64 0, .int .u64 0, .slice none 0 0]) rfl
      have ho6 : World.ownsRow (w5.setCell ⟨w1.heap.size, 7, none⟩ (.slice a5 (k + 1) c5)) (w1.heap.size + 1) 52 2 (.slice a5 (k + 1) c5) (k + 1) ((pg ++ [(x1, x2)]).flatMap pcells) := by
        refine ownsRow_but (S := fun j => j = w1.heap.size) ?_ ((But.refl (fun j => j = w1.heap.size) w5).setCell (p := ⟨w1.heap.size, 7, none⟩) rfl _) (fun j hj e => by have := (ho5.lt j hj).1; omega)
        rw [List.flatMap_append]
        simpa using ho5
      have hsz6 : (w1.heap.size + 1) ≤ (w5.setCell ⟨w1.heap.size, 7, none⟩ (.slice a5 (k + 1) c5)).heap.size := Nat.succ_le_of_lt hs6.box.lt
      have HF := Lib.hid (And.intro hs6 (And.intro HPG.out.2.2 (And.intro ho6 hsz6)))
      have HXX := Lib.hid (And.intro hx1 hx2)
      clear hs5 hs6 ho5 hon5 hon ho6 hsz6 t7 t0 t1 c7 f7 hszs hx1 hx2
      have hwk : IntKind.u64.wrap ((k : Int) + 1) = ((k + 1 : Nat) : Int) := by rw [show ((k : Int) + 1) = ((k + 1 : Nat) : Int) by omega]; exact wrap_u64_nat (by omega)
      go_roundw
      case rel =>
        refine ⟨k + 1, a5, c5, pg ++ [(x1, x2)], q2, by omega, by first | rfl | (rw [hwk]) | go_num, by simp [HPG.out.1], fun x hx => ?_, HF.out⟩
        rcases List.mem_append.1 hx with h | h
        · exact HPG.out.2.1 x h
        · rw [List.mem_singleton.1 h]; exact HXX.out
      case measure => simp [intOf]; omega
    · have hkn : k = n5 := by omega
      subst hkn
      have HPG := Lib.hid (And.intro hpl (And.intro hps (And.intro ho hbs)))
      have b6 := hbP
      clear hpl hps ho hbs hbP hlt hk
      have hsp := shows_of_own (l := pg) (f := pcells) (k := 2) (fun _ => rfl) (by rw [HPG.out.1]; exact HPG.out.2.2.1)
      have HS0 := Lib.hid hsp
      clear hsp
      have k6 := fun u => nextFlag_any p D P u
      obtain ⟨n6, hn6⟩ : ∃ n, n = isDel P := ⟨_, rfl⟩
      obtain ⟨q6, hp6⟩ : ∃ x, x = P.skip 1 := ⟨_, rfl⟩
      rw [← hn6, ← hp6] at k6
      have b7 : Bytes q6.zs := by rw [hp6]; exact skip_bytes b6 1
      clear hn6 hp6 b6
      go_wp2_with fail
      refine (k6 _ hsC.rd).mono ?_
      rintro e u6 ⟨rfl, hr, hb⟩
      have hr6 := hsC.read hr hb
      have hsA6 := HS0.out.but hb (fun j h1 _ e => by omega)
      have hsB6 := hsA6.but ((But.refl (fun j => j = w1.heap.size) u6).setCell (p := ⟨w1.heap.size, 8, none⟩) rfl (.bool n6)) (fun j h1 _ e => by omega)
      have HS6 := Lib.hid hsB6
      clear hsA6 hsB6
      clear hr hb hsC k6
      have c8 : u6.cell? ⟨w1.heap.size, 8, none⟩ = some (.bool false) := hr6.cell 8 rfl
      have f8 : u6.frozen? ⟨w1.heap.size, 8, none⟩ = false := hr6.frozen 8
      have hs6 := hr6.set 8 (.bool n6) (cs' := #[.int .i64 0, .int .i64 tb, .int .u32 (tg : Int), .int .u32 (ts : Int), .int .u64 (tx : Int), .int .u64 (n3 : Int), .string n4, .slice va k vc, .bool n6, .int .i64 0, .int .i64 0, .int .i64 0, .int .u64 0, .slice none 0 0]) rfl
      clear hr6
      have k7 := fun u => nextMeasure_any p D q6 u
      obtain ⟨n7, hn7⟩ : ∃ n, n = sgn (q6.num 8) := ⟨_, rfl⟩
      obtain ⟨q7, hp7⟩ : ∃ x, x = q6.skip 8 := ⟨_, rfl⟩
      rw [← hn7, ← hp7] at k7
      have b8 : Bytes q7.zs := by rw [hp7]; exact skip_bytes b7 8
      clear hn7 hp7 b7
      go_wp2_with fail
      refine (k7 _ hs6.rd).mono ?_
      rintro e u7 ⟨rfl, hr, hb⟩
      have hr7 := hs6.read hr hb
      have hsA7 := HS6.out.but hb (fun j h1 _ e => by omega)
      have hsB7 := hsA7.but ((But.refl (fun j => j = w1.heap.size) u7).setCell (p := ⟨w1.heap.size, 9, none⟩) rfl (.int .i64 n7)) (fun j h1 _ e => by omega)
      have HS7 := Lib.hid hsB7
      clear hsA7 hsB7
      clear hr hb hs6 k7
      have c9 : u7.cell? ⟨w1.heap.size, 9, none⟩ = some (.int .i64 0) := hr7.cell 9 rfl
      have f9 : u7.frozen? ⟨w1.heap.size, 9, none⟩ = false := hr7.frozen 9
      have hs7 := hr7.set 9 (.int .i64 n7) (cs' := #[.int .i64 0, .int .i64 tb, .int .u32 (tg : Int), .int .u32 (ts : Int), .int .u64 (tx : Int), .int .u64 (n3 : Int), .string n4, .slice va k vc, .bool n6, .int .i64 n7, .int .i64 0, .int .i64 0, .int .u64 0, .slice none 0 0]) rfl
      clear hr7
      have k8 := fun u => nextMeasure_any p D q7 u
      obtain ⟨n8, hn8⟩ : ∃ n, n = sgn (q7.num 8) := ⟨_, rfl⟩
      obtain ⟨q8, hp8⟩ : ∃ x, x = q7.skip 8 := ⟨_, rfl⟩
      rw [← hn8, ← hp8] at k8
      have b9 : Bytes q8.zs := by rw [hp8]; exact skip_bytes b8 8
      clear hn8 hp8 b8
      go_wp2_with fail
      refine (k8 _ hs7.rd).mono ?_
      rintro e u8 ⟨rfl, hr, hb⟩
      have hr8 := hs7.read hr hb
      have hsA8 := HS7.out.but hb (fun j h1 _ e => by omega)
      have hsB8 := hsA8.but ((But.refl (fun j => j = w1.heap.size) u8).setCell (p := ⟨w1.heap.size, 10, none⟩) rfl (.int .i64 n8)) (fun j h1 _ e => by omega)
      have HS8 := Lib.hid hsB8
      clear hsA8 hsB8
      clear hr hb hs7 k8
      have c10 : u8.cell? ⟨w1.heap.size, 10, none⟩ = some (.int .i64 0) := hr8.cell 10 rfl
      have f10 : u8.frozen? ⟨w1.heap.size, 10, none⟩ = false := hr8.frozen 10
      have hs8 := hr8.set 10 (.int .i64 n8) (cs' := #[.int .i64 0, .int .i64 tb, .int .u32 (tg : Int), .int .u32 (ts : Int), .int .u64 (tx : Int), .int .u64 (n3 : Int), .string n4, .slice va k vc, .bool n6, .int .i64 n7, .int .i64 n8, .int .i64 0, .int .u64 0, .slice none 0 0]) rfl
      clear hr8
      have k9 := fun u => nextMeasure_any p D q8 u
      obtain ⟨n9, hn9⟩ : ∃ n, n = sgn (q8.num 8) := ⟨_, rfl⟩
      obtain ⟨q9, hp9⟩ : ∃ x, x = q8.skip 8 := ⟨_, rfl⟩
      rw [← hn9, ← hp9] at k9
      have b10 : Bytes q9.zs := by rw [hp9]; exact skip_bytes b9 8
      clear hn9 hp9 b9
      go_wp2_with fail
      refine (k9 _ hs8.rd).mono ?_
      rintro e u9 ⟨rfl, hr, hb⟩
      have hr9 := hs8.read hr hb
      have hsA9 := HS8.out.but hb (fun j h1 _ e => by omega)
      have hsB9 := hsA9.but ((But.refl (fun j => j = w1.heap.size) u9).setCell (p := ⟨w1.heap.size, 11, none⟩) rfl (.int .i64 n9)) (fun j h1 _ e => by omega)
      have HS9 := Lib.hid hsB9
      clear hsA9 hsB9
      clear hr hb hs8 k9
      have c11 : u9.cell? ⟨w1.heap.size, 11, none⟩ = some (.int .i64 0) := hr9.cell 11 rfl
      have f11 : u9.frozen? ⟨w1.heap.size, 11, none⟩ = false := hr9.frozen 11
      have hs9 := hr9.set 11 (.int .i64 n9) (cs' := #[.int .i64 0, .int .i64 tb, .int .u32 (tg : Int), .int .u32 (ts : Int), .int .u64 (tx : Int), .int .u64 (n3 : Int), .string n4, .slice va k vc, .bool n6, .int .i64 n7, .int .i64 n8, .int .i64 n9, .int .u64 0, .slice none 0 0]) rfl
      clear hr9
      have k10 := fun u => rdP_number p D q9 8 (by omega) (by omega) u
      obtain ⟨n10, hn10⟩ : ∃ n, n = q9.num 8 := ⟨_, rfl⟩
      obtain ⟨qA, hp10⟩ : ∃ x, x = q9.skip 8 := ⟨_, rfl⟩
      have l10 := num8_lt b10
      rw [← hn10] at l10
      rw [← hn10, ← hp10] at k10
      have b11 : Bytes qA.zs := by rw [hp10]; exact skip_bytes b10 8
      clear hn10 hp10 b10
      go_wp2_with fail
      refine (k10 _ hs9.rd).mono ?_
      rintro e u10 ⟨rfl, hr, hb⟩
      have hr10 := hs9.read hr hb
      have hsA10 := HS9.out.but hb (fun j h1 _ e => by omega)
      have hsB10 := hsA10.but ((But.refl (fun j => j = w1.heap.size) u10).setCell (p := ⟨w1.heap.size, 12, none⟩) rfl (.int .u64 (n10 : Int))) (fun j h1 _ e => by omega)
      have HS10 := Lib.hid hsB10
      clear hsA10 hsB10
      clear hr hb hs9 k10
      have c12 : u10.cell? ⟨w1.heap.size, 12, none⟩ = some (.int .u64 0) := hr10.cell 12 rfl
      have f12 : u10.frozen? ⟨w1.heap.size, 12, none⟩ = false := hr10.frozen 12
      have hs10 := hr10.set 12 (.int .u64 (n10 : Int)) (cs' := #[.int .i64 0, .int .i64 tb, .int .u32 (tg : Int), .int .u32 (ts : Int), .int .u64 (tx : Int), .int .u64 (n3 : Int), .string n4, .slice va k vc, .bool n6, .int .i64 n7, .int .i64 n8, .int .i64 n9, .int .u64 (n10 : Int), .slice none 0 0]) rfl
      clear hr10
      have k11 := fun u => rdP_number p D qA 1 (by omega) (by omega) u
      obtain ⟨n11, hn11⟩ : ∃ n, n = qA.num 1 := ⟨_, rfl⟩
      obtain ⟨qB, hp11⟩ : ∃ x, x = qA.skip 1 := ⟨_, rfl⟩
      have l11 := num1_lt b11
      rw [← hn11] at l11
      rw [← hn11, ← hp11] at k11
      have b12 : Bytes qB.zs := by rw [hp11]; exact skip_bytes b11 1
      clear hn11 hp11 b11
      go_wp2_with fail
      refine (k11 _ hs10.rd).mono ?_
      rintro e u11 ⟨rfl, hr, hb⟩
      have hs11 := hs10.read hr hb
      have HS11 := Lib.hid (HS10.out.but hb (fun j h1 _ e => by omega))
      have hbs11 : (w1.heap.size + 1) ≤ u11.heap.size := Nat.succ_le_of_lt hs11.box.lt
      obtain ⟨X1, hX1⟩ : ∃ x, x = u11.heap.size := ⟨_, rfl⟩
      have H11 := Lib.hid (And.intro hs11 (And.intro b12 (And.intro hbs11 hX1)))
      clear hr hb hs10 k11 hs11 b12 hbs11
      go_wp2_with fail
      go_loopw [59] (fun i wr => ∃ (k2 : Nat) (wa : Option Addr) (wc : Nat) (bk : List Int) (P : Pos), k2 ≤ n11 ∧ i = .int .u64 (k2 : Int) ∧ bk.length = k2 ∧ Rdg p D 49 w.heap.size w1.heap.size #[.int .i64 0, .int .i64 0, .int .u32 0, .int .u32 0, .int .u64 0, .int .u64 0, .string ⟨#[]⟩, .slice none 0 0, .bool false, .int .i64 0, .int .i64 0, .int .i64 0, .int .u64 0, .slice none 0 0] w wr P #[.int .i64 0, .int .i64 tb, .int .u32 (tg : Int), .int .u32 (ts : Int), .int .u64 (tx : Int), .int .u64 (n3 : Int), .string n4, .slice va k vc, .bool n6, .int .i64 n7, .int .i64 n8, .int .i64 n9, .int .u64 (n10 : Int), .slice wa k2 wc] ∧ Bytes P.zs ∧ wr.ownsRow X1 3 1 (.slice wa k2 wc) k2 (bk.flatMap icells) ∧ But (fun j => j = p ∨ j = w1.heap.size ∨ X1 ≤ j) u11 wr ∧ X1 ≤ wr.heap.size) (fun i _ => n11 - (intOf i).toNat)
      case atStart => exact ⟨0, none, 0, [], qB, Nat.zero_le _, rfl, rfl, H11.out.1, H11.out.2.1, World.ownsRow_nil _ _ _ _, But.refl _ _, by rw [H11.out.2.2.2]; exact Nat.le_refl _⟩
      case round =>
        obtain ⟨k2, wa, wc, bk, P2, hk2, rfl, hbl, hsD, hbP2, ho, hsh, hbs⟩ := hrel
        have hXb : (w1.heap.size + 1) ≤ X1 := by rw [H11.out.2.2.2]; exact H11.out.2.2.1
        have HX1 := Lib.hid H11.out.2.2.2
        clear H11
        by_cases hlt : k2 < n11
        · have kn := fun u => rdP_number p D P2 1 (by omega) (by omega) u
          have lz := num1_lt hbP2
          have bz := skip_bytes hbP2 1
          obtain ⟨z, hz⟩ : ∃ n, n = P2.num 1 := ⟨_, rfl⟩
          obtain ⟨P3, hP3⟩ : ∃ n, n = P2.skip 1 := ⟨_, rfl⟩
          rw [← hz] at kn lz
          rw [← hP3] at kn bz
          have HD := Lib.hid (And.intro hsD (And.intro ho (And.intro hsh (And.intro hbl bz))))
          have HC13 := Lib.hid (show wr.drew.cell? ⟨w1.heap.size, 13, none⟩ = some (.slice wa k2 wc) from hsD.cell 13 rfl)
          have KN := Lib.hid kn
          have hwz : IntKind.i64.wrap (z : Int) = (z : Int) := by rw [IntKind.wrap_i64]; omega
          clear hz hP3 hbP2 hsD ho hsh hbl bz kn
          go_wp2_with fail
          refine Late.region_goes (fun V => V.cell? ⟨w1.heap.size, 13, none⟩ = some (.slice wa k2 wc)) (fun j => j == 8) (by kernel_rfl) ?_ (fun hH => ?_)
          · exact HC13.out
          refine Late.Goes.takeT (i := 0) (v := ?_) (by simp only [List.getElem?_toArray, List.getElem?_cons_succ, List.getElem?_cons_zero]; rfl) (by kernel_rfl) (by kernel_rfl) (by kernel_rfl) (by kernel_rfl) (by kernel_rfl) (by exact fun _ _ _ h => h) (Or.inl ⟨by rfl, ?_⟩) hH ?_
          rotate_left
          · (intro wy hSw; (try dsimp only at hSw); have k0 : wy.cell? ⟨w1.heap.size, 13, none⟩ = some (.slice wa k2 wc) := hSw; go_simp; try (with_reducible rfl))
          try simp only [Act.put, List.setIfInBounds_toArray, List.set_cons_zero, List.set_cons_succ]
          refine Late.Goes.takeT (i := 1) (v := ?_) (by simp only [List.getElem?_toArray, List.getElem?_cons_succ, List.getElem?_cons_zero]; rfl) (by kernel_rfl) (by kernel_rfl) (by kernel_rfl) (by kernel_rfl) (by kernel_rfl) (by exact fun _ _ _ h => h) (Or.inl ⟨by rfl, ?_⟩) hH ?_
          rotate_left
          · (intro wy hSw; (try dsimp only at hSw); have k0 : wy.cell? ⟨w1.heap.size, 13, none⟩ = some (.slice wa k2 wc) := hSw; go_simp; try (with_reducible rfl))
          try simp only [Act.put, List.setIfInBounds_toArray, List.set_cons_zero, List.set_cons_succ]
          refine Late.Goes.takeT (i := 2) (v := ?_) (by simp only [List.getElem?_toArray, List.getElem?_cons_succ, List.getElem?_cons_zero]; rfl) (by kernel_rfl) (by kernel_rfl) (by kernel_rfl) (by kernel_rfl) (by kernel_rfl) (by exact fun _ _ _ h => h) (Or.inl ⟨by rfl, ?_⟩) hH ?_
          rotate_left
          · (intro wy hSw; (try dsimp only at hSw); have k0 : wy.cell? ⟨w1.heap.size, 13, none⟩ = some (.slice wa k2 wc) := hSw; go_simp; try (with_reducible rfl))
          try simp only [Act.put, List.setIfInBounds_toArray, List.set_cons_zero, List.set_cons_succ]
          refine Late.Goes.one (i := 3) (by kernel_rfl) (by simp only [List.getElem?_toArray, List.getElem?_cons_succ, List.getElem?_cons_zero]; rfl) (fun K hK => ?_)
          clear hH
          go_simp
          go_at_call 42
          have hdr : But (fun _ => False) wr wr.drew := (But.refl (fun _ => False) wr).drew
          refine (KN.out _ ((HD.out.1.new hdr).rd)).mono ?_
          rintro e w3 ⟨rfl, hr, hb⟩
          have hs3 := (HD.out.1.new hdr).read hr hb
          have ho3 := ownsRow_but (ownsRow_but HD.out.2.1 hdr (fun _ _ e => e)) hb (fun j hj e => by have := (HD.out.2.1.lt j hj).1; omega)
          have hsh3 := (HD.out.2.2.1.trans hdr (fun _ _ e => e.elim)).trans hb (fun j _ e => .inl e)
          have HC3 := Lib.hid (show w3.cell? ⟨w1.heap.size, 13, none⟩ = some (.slice wa k2 wc) from hs3.cell 13 rfl)
          have hbs3 : X1 ≤ w3.heap.size := Nat.le_trans hbs hb.size
          have H3 := Lib.hid (And.intro hs3 (And.intro ho3 hsh3))
          clear hr hb hs3 ho3 hsh3 hdr hbs
          refine hK.out _ _ ?_ (fun hH => ?_)
          · exact fun _ => HC3.out
          clear hK K
          have hH := hH rfl
          try simp only [Act.put, List.setIfInBounds_toArray, List.set_cons_zero, List.set_cons_succ]
          refine Late.Goes.takeT (i := 4) (v := ?_) (by simp only [List.getElem?_toArray, List.getElem?_cons_succ, List.getElem?_cons_zero]; rfl) (by kernel_rfl) (by kernel_rfl) (by kernel_rfl) (by kernel_rfl) (by kernel_rfl) (by exact fun _ _ _ h => h) (Or.inl ⟨by rfl, ?_⟩) hH ?_
          rotate_left
          · (intro wy hSw; (try dsimp only at hSw); have k0 : wy.cell? ⟨w1.heap.size, 13, none⟩ = some (.slice wa k2 wc) := hSw; go_simp; try (with_reducible rfl))
          try simp only [Act.put, List.setIfInBounds_toArray, List.set_cons_zero, List.set_cons_succ]
          refine Late.Goes.one (i := 5) (by kernel_rfl) (by simp only [List.getElem?_toArray, List.getElem?_cons_succ, List.getElem?_cons_zero]; rfl) (fun K hK => ?_)
          clear hH
          go_simp
          have hb6 : But (fun _ => False) w3 (w3.alloc (.cells #[.int .i64 (z : Int)] 3)) := But.alloc (But.refl (fun _ => False) w3) (.cells #[.int .i64 (z : Int)] 3)
          have H6 := Lib.hid (And.intro (H3.out.1.new hb6) (And.intro (ownsRow_alloc H3.out.2.1 (.cells #[.int .i64 (z : Int)] 3)) (H3.out.2.2.trans hb6 (fun _ _ e => e.elim))))
          have HE6 := Lib.hid (show Sees (w3.alloc (.cells #[.int .i64 (z : Int)] 3)) 1 (.slice (some ⟨w3.heap.size, 0, none⟩) 1 1) 1 (icells (z : Int)) from sees_cells w3 (icells (z : Int)) 1 rfl _ _ _ rfl)
          have HC6 := Lib.hid (show (w3.alloc (.cells #[.int .i64 (z : Int)] 3)).cell? ⟨w1.heap.size, 13, none⟩ = some (.slice wa k2 wc) from H6.out.1.cell 13 rfl)
          have hbs6 : X1 ≤ (w3.alloc (.cells #[.int .i64 (z : Int)] 3)).heap.size := by simp; omega
          clear hb6
          generalize (w3.alloc (.cells #[.int .i64 (z : Int)] 3)) = W6 at H6 HE6 HC6 hbs6 ⊢
          refine hK.out _ _ ?_ (fun hH => ?_)
          · exact fun _ => HC6.out
          clear hK K
          have hH := hH rfl
          try simp only [Act.put, List.setIfInBounds_toArray, List.set_cons_zero, List.set_cons_succ]
          refine Late.Goes.one (i := 6) (by kernel_rfl) (by simp only [List.getElem?_toArray, List.getElem?_cons_succ, List.getElem?_cons_zero]; rfl) (fun K hK => ?_)
          clear hH
          refine step_append_onto rfl (.tmp 62) (.tmp 66) _ rfl X1 3 j0 _ 1 8 Try.underlying47 hj0 hy0 hy1 hy2 rfl (by omega) (.slice wa k2 wc) k2 (bk.flatMap icells) rfl H6.out.2.1 (.slice (some ⟨w3.heap.size, 0, none⟩) 1 1) 1 (icells (z : Int)) rfl HE6.out (by simp [icells, Value.oneCell']) (by simp only [maxLen]; omega) (by omega) hbs6 ?_
          intro v5 w5 ho5 hon5
          obtain ⟨a5, c5, hv5⟩ := own_slc ho5
          subst hv5
          have hs5 := H6.out.1.other (base := (w1.heap.size + 1)) hon5.but (fun j e => Nat.le_trans hXb (H6.out.2.1.lt j e.symm).1) (by omega) (by omega) (by omega) (by omega) (by omega)
          have hsh5 := H6.out.2.2.trans hon5.but (fun j _ e => .inr (.inr (H6.out.2.1.lt j e.symm).1))
          have HC5 := Lib.hid (show w5.cell? ⟨w1.heap.size, 13, none⟩ = some (.slice wa k2 wc) from hs5.cell 13 rfl)
          have f13 : w5.frozen? ⟨w1.heap.size, 13, none⟩ = false := hs5.frozen 13
          have hbs5 : X1 ≤ w5.heap.size := Nat.le_trans hbs6 hon5.grown.size
          have H5 := Lib.hid (And.intro hs5 (And.intro ho5 hsh5))
          clear hs5 ho5 hsh5 hon5 hbs6
          refine hK.out _ _ ?_ (fun hH => ?_)
          · exact fun _ => HC5.out
          clear hK K
          have hH := hH rfl
          try simp only [Act.put, List.setIfInBounds_toArray, List.set_cons_zero, List.set_cons_succ]
          refine Late.Goes.takeT (i := 7) (v := ?_) (by simp only [List.getElem?_toArray, List.getElem?_cons_succ, List.getElem?_cons_zero]; rfl) (by kernel_rfl) (by kernel_rfl) (by kernel_rfl) (by kernel_rfl) (by kernel_rfl) (by exact fun _ _ _ h => h) (Or.inl ⟨by rfl, ?_⟩) hH ?_
          rotate_left
          · (intro wy hSw; (try dsimp only at hSw); have k0 : wy.cell? ⟨w1.heap.size, 13, none⟩ = some (.slice wa k2 wc) := hSw; go_simp; try (with_reducible rfl))
          try simp only [Act.put, List.setIfInBounds_toArray, List.set_cons_zero, List.set_cons_succ]
          have c13 := HC5.out
          refine Late.Goes.one (i := 8) (by kernel_rfl) (by simp only [List.getElem?_toArray, List.getElem?_cons_succ, List.getElem?_cons_zero]; rfl) (fun K hK => ?_)
          clear hH
          go_simp
          have hs6 := H5.out.1.set 13 (.slice a5 (k2 + 1) c5) (cs' := #[.int .i64 0, .int .i64 tb, .int .u32 (tg : Int), .int .u32 (ts : Int), .int .u64 (tx : Int), .int .u64 (n3 : Int), .string n4, .slice va k vc, .bool n6, .int .i64 n7, .int .i64 n8, .int .i64 n9, .int .u64 (n10 : Int), .slice a5 (k2 + 1) c5]) rfl
          have hbb : But (fun j => j = w1.heap.size) w5 (w5.setCell ⟨w1.heap.size, 13, none⟩ (.slice a5 (k2 + 1) c5)) := (But.refl (fun j => j = w1.heap.size) w5).setCell (p := ⟨w1.heap.size, 13, none⟩) rfl _
          have ho6 := ownsRow_but H5.out.2.1 hbb (fun j hj e => by have := (H5.out.2.1.lt j hj).1; omega)
          have hsh6 := H5.out.2.2.trans hbb (fun j _ e => .inr (.inl e))
          have ho7 : World.ownsRow (w5.setCell ⟨w1.heap.size, 13, none⟩ (.slice a5 (k2 + 1) c5)) X1 3 1 (.slice a5 (k2 + 1) c5) (k2 + 1) ((bk ++ [(z : Int)]).flatMap icells) := by
            rw [List.flatMap_append]
            simpa using ho6
          have HF := Lib.hid (And.intro hs6 (And.intro HD.out.2.2.2.2 (And.intro ho7 (And.intro hsh6 (Nat.le_trans hbs5 hbb.size)))))
          have HL2 := Lib.hid HD.out.2.2.2.1
          clear hs6 hbb ho6 ho7 hsh6 c13 f13
          refine hK.out _ _ ?_ (fun _ => ?_)
          · exact fun h => by cases h
          clear hK K
          try simp only [Act.put, List.setIfInBounds_toArray, List.set_cons_zero, List.set_cons_succ]
          refine Late.Goes.done (by kernel_rfl) ?_ _
          have hwk : IntKind.u64.wrap ((k2 : Int) + 1) = ((k2 + 1 : Nat) : Int) := by rw [show ((k2 : Int) + 1) = ((k2 + 1 : Nat) : Int) by omega]; exact wrap_u64_nat (by omega)
          go_wp2_with fail
          go_roundw
          case rel => exact ⟨k2 + 1, a5, c5, bk ++ [(z : Int)], P3, by omega, by first | rfl | (rw [hwk]) | go_num, by simp [HL2.out], HF.out⟩
          case measure => simp [intOf]; omega
        · have hkn : k2 = n11 := by omega
          subst hkn
          have hsb := shows_of_own (l := bk) (f := icells) (k := 1) (fun _ => rfl) (by rw [hbl]; exact ho)
          have hbr := but_setRow (fun j => j = w.heap.size) (But.refl _ wr) (.inl rfl) #[.int .i64 0, .int .i64 tb, .int .u32 (tg : Int), .int .u32 (ts : Int), .int .u64 (tx : Int), .int .u64 (n3 : Int), .string n4, .slice va k vc, .bool n6, .int .i64 n7, .int .i64 n8, .int .i64 n9, .int .u64 (n10 : Int), .slice wa k2 wc]
          have HSP := Lib.hid (((HS11.out.but hsh (fun j h1 h2 e => by have := HX1.out; rcases e with e | e | e <;> omega)).but hbr (fun j h1 _ e => by omega)).mono (lo' := w.heap.size) (by omega))
          have HSB := Lib.hid ((hsb.but hbr (fun j h1 _ e => by omega)).mono (lo' := w.heap.size) (by omega))
          have HBL := Lib.hid hbl
          have HL10 := Lib.hid l10
          clear hsb hbr hsh ho hbP2 hbs hlt hk2 hbl
          have HBX := Lib.hid (show _ = _ from hsD.box)
          have HRX := Lib.hid (show _ = _ from hsD.res)
          have HLAST := Lib.hid (hsD.last #[.int .i64 0, .int .i64 tb, .int .u32 (tg : Int), .int .u32 (ts : Int), .int .u64 (tx : Int), .int .u64 (n3 : Int), .string n4, .slice va k vc, .bool n6, .int .i64 n7, .int .i64 n8, .int .i64 n9, .int .u64 (n10 : Int), .slice wa k2 wc])
          clear hsD
          have hone : (#[.int .i64 0, .int .i64 tb, .int .u32 (tg : Int), .int .u32 (ts : Int), .int .u64 (tx : Int), .int .u64 (n3 : Int), .string n4, .slice va k vc, .bool n6, .int .i64 n7, .int .i64 n8, .int .i64 n9, .int .u64 (n10 : Int), .slice wa k2 wc] : Array Value).all (fun x => x.oneCell') = true := by simp [Value.oneCell']
          have HONE := Lib.hid hone
          clear hone
          have HOLD := Lib.hid (show (#[.int .i64 0, .int .i64 0, .int .u32 0, .int .u32 0, .int .u64 0, .int .u64 0, .string ⟨#[]⟩, .slice none 0 0, .bool false, .int .i64 0, .int .i64 0, .int .i64 0, .int .u64 0, .slice none 0 0] : Array Value).size = (#[.int .i64 0, .int .i64 tb, .int .u32 (tg : Int), .int .u32 (ts : Int), .int .u64 (tx : Int), .int .u64 (n3 : Int), .string n4, .slice va k vc, .bool n6, .int .i64 n7, .int .i64 n8, .int .i64 n9, .int .u64 (n10 : Int), .slice wa k2 wc] : Array Value).size by simp)
          have HSZ := Lib.hid (resp_sz.trans (show some 14 = some (#[.int .i64 0, .int .i64 tb, .int .u32 (tg : Int), .int .u32 (ts : Int), .int .u64 (tx : Int), .int .u64 (n3 : Int), .string n4, .slice va k vc, .bool n6, .int .i64 n7, .int .i64 n8, .int .i64 n9, .int .u64 (n10 : Int), .slice wa k2 wc] : Array Value).size by simp))
          go_wp2_with (first
            | (refine wpList_load_row rfl 49 _ rfl w1.heap.size rfl 49 _ (0, 0) _ HBX.out Try.underlying49 rfl HSZ.out ?_)
            | (refine wpList_store_rowTo rfl 49 _ _ rfl rfl w.heap.size #[.int .i64 0, .int .i64 tb, .int .u32 (tg : Int), .int .u32 (ts : Int), .int .u64 (tx : Int), .int .u64 (n3 : Int), .string n4, .slice va k vc, .bool n6, .int .i64 n7, .int .i64 n8, .int .i64 n9, .int .u64 (n10 : Int), .slice wa k2 wc] rfl rfl 49 #[.int .i64 0, .int .i64 0, .int .u32 0, .int .u32 0, .int .u64 0, .int .u64 0, .string ⟨#[]⟩, .slice none 0 0, .bool false, .int .i64 0, .int .i64 0, .int .i64 0, .int .u64 0, .slice none 0 0] HRX.out HSZ.out HOLD.out HONE.out ?_))
          refine bodyPost_ret (results_cell_row rfl _ _ w.heap.size 49 #[.int .i64 0, .int .i64 tb, .int .u32 (tg : Int), .int .u32 (ts : Int), .int .u64 (tx : Int), .int .u64 (n3 : Int), .string n4, .slice va k vc, .bool n6, .int .i64 n7, .int .i64 n8, .int .i64 n9, .int .u64 (n10 : Int), .slice wa k2 wc] (0, 0) _ rfl (setRow_heap _ _ _ _ _ _ HRX.out) Try.underlying49 rfl HSZ.out) rfl ?_
          have hwb : Below w.heap.size w _ := (HLAST.out.2).below (Nat.le_refl _) (fun k hk => by have := HP.out; omega)
          exact ⟨⟨0, ⟨tb, tg, ts, tx⟩, n3, n4, pg, n6, n7, n8, n9, n10, bk⟩, .slice va k vc, .slice wa k2 wc, rfl, ⟨HC64.out, HTK.out.1.so, HTK.out.2.1, HTK.out.2.2, HPG.out.2.1, by have := HPG.out.1; simp only; omega, HL10.out, by have := HBL.out; simp only; omega⟩, HSP.out, HSB.out, hwb⟩
end Go.Proofs.Ytbdbbnpkekcefaa.Cmd
