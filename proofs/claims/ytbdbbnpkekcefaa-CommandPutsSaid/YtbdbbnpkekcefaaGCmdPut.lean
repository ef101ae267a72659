/- In one text: The bytes of tokens, quotas, flags: the walks of command's own calls. The bytes of all ops: the walk of command.putOps. The parts that a tag asks for: the walk of command.partsOf. -/
import Derived.Test.YtbdbbnpkekcefaaCmdMem
namespace Go.Proofs.Ytbdbbnpkekcefaa.Cmd
open Go.Proofs.Ytbdbbnpkekcefaa.Mem Go.Proofs.Ytbdbbnpkekcefaa.Pack
open Go.ChangeShapes Go.WideShapes Go.ChangeAt Go.RowKit
set_option linter.unusedVariables false
set_option linter.unusedSimpArgs false

theorem putFlag_any (b : Bool) (v : Value) (len : Nat) (xs : List Int) (base : Nat) (w : World)
    (hown : w.ownsRow base 5 1 v len (cellsOf xs)) (hb : base ≤ w.heap.size) (hl : len ≤ 1073741824) :
    Calls Try.prog 55 #[v, .bool b] w fun e w' => ∃ v', e = .returned v' ∧ w'.ownsRow base 5 1 v' (len + 1) (cellsOf (xs ++ flag b)) ∧ Onto w w' v v' := by
  cases b
  · go_enter Try.func55, Try.ntmps55
    go_wp2_with fail
    refine (put_any 0 (by omega) 1 (by omega) (by omega) v len xs base w hown hb hl).mono ?_
    rintro e w1 ⟨v1, rfl, ho, hon⟩
    go_wp2_with fail
    go_ret
    exact ⟨_, rfl, ho, hon⟩
  · go_enter Try.func55, Try.ntmps55
    go_wp2_with fail
    refine (put_any 1 (by omega) 1 (by omega) (by omega) v len xs base w hown hb hl).mono ?_
    rintro e w1 ⟨v1, rfl, ho, hon⟩
    go_wp2_with fail
    go_ret
    exact ⟨_, rfl, ho, hon⟩
theorem putMeasure_any (z : Int) (v : Value) (len : Nat) (xs : List Int) (base : Nat) (w : World)
    (hown : w.ownsRow base 5 1 v len (cellsOf xs)) (hb : base ≤ w.heap.size) (hl : len ≤ 1073741824) :
    Calls Try.prog 60 #[v, .int .i64 z] w fun e w' => ∃ v', e = .returned v' ∧ w'.ownsRow base 5 1 v' (len + 8) (cellsOf (xs ++ put (u64 z) 8)) ∧ Onto w w' v v' := by
  have hw := wrap_u64 z
  have hlt := u64_lt z
  go_enter Try.func60, Try.ntmps60
  go_wp2_with fail
  refine (put_any (u64 z) hlt 8 (by omega) (by omega) v len xs base w hown hb hl).mono ?_
  rintro e w1 ⟨v1, rfl, ho, hon⟩
  go_wp2_with fail
  go_ret
  exact ⟨_, rfl, ho, hon⟩
set_option maxRecDepth 100000 in
set_option maxHeartbeats 2000000 in
theorem putToken_any (t : Tok) (ht : TokSo t) (v : Value) (len : Nat) (xs : List Int) (base : Nat) (w : World)
    (hown : w.ownsRow base 5 1 v len (cellsOf xs)) (hb : base ≤ w.heap.size) (hl : len ≤ 1000000000) :
    Calls Try.prog 52 #[v, tv t] w fun e w' => ∃ v', e = .returned v' ∧ w'.ownsRow base 5 1 v' (len + 17) (cellsOf (xs ++ putTok t)) ∧ Onto w w' v v' := by
  obtain ⟨b, g, sr, x⟩ := t
  obtain ⟨hb', hg, hs, hx⟩ := ht
  simp only at hb' hg hs hx
  have hw := wrap_u64 b
  have hlt := u64_lt b
  have hw2 := wrap_u64_nat (n := g) (by omega)
  have hw3 := wrap_u64_nat (n := sr) (by omega)
  have hg0 := Going.start #[.int .i64 b, .int .u32 (g : Int), .int .u32 (sr : Int), .int .u64 (x : Int)] 29 hown hb
  have HOWN := Lib.hid hown
  clear hown
  unfold tv
  go_enter Try.func52, Try.ntmps52
  go_wp2_with fail
  refine (put_any (u64 b) hlt 1 (by omega) (by omega) v _ xs base _ hg0.own hg0.size (by omega)).mono ?_
  rintro e w1 ⟨v1, rfl, ho, hon⟩
  have hg1 := hg0.step ho hon
  have c1 := hg1.cell 1 rfl
  clear ho hon hg0
  go_wp2_with fail
  refine (put_any g (by omega) 4 (by omega) (by omega) v1 _ _ base _ hg1.own hg1.size (by omega)).mono ?_
  rintro e w2 ⟨v2, rfl, ho, hon⟩
  have hg2 := hg1.step ho hon
  have c2 := hg2.cell 2 rfl
  clear ho hon hg1 c1
  go_wp2_with fail
  refine (put_any sr (by omega) 4 (by omega) (by omega) v2 _ _ base _ hg2.own hg2.size (by omega)).mono ?_
  rintro e w3 ⟨v3, rfl, ho, hon⟩
  have hg3 := hg2.step ho hon
  have c3 := hg3.cell 3 rfl
  clear ho hon hg2 c2
  go_wp2_with fail
  refine (put_any x (by omega) 8 (by omega) (by omega) v3 _ _ base _ hg3.own hg3.size (by omega)).mono ?_
  rintro e w4 ⟨v4, rfl, ho, hon⟩
  have hg4 := hg3.step ho hon
  clear ho hon hg3 c3
  go_wp2_with fail
  go_ret
  exact ⟨_, rfl, row_eq hg4.own (by omega) (by simp [putTok]), hg4.onto⟩
set_option maxRecDepth 100000 in
set_option maxHeartbeats 2000000 in
theorem putQuota_any (q : Quo) (v : Value) (len : Nat) (xs : List Int) (base : Nat) (w : World)
    (hown : w.ownsRow base 5 1 v len (cellsOf xs)) (hb : base ≤ w.heap.size) (hl : len ≤ 1000000000) :
    Calls Try.prog 51 #[v, qv q] w fun e w' => ∃ v', e = .returned v' ∧ w'.ownsRow base 5 1 v' (len + 24) (cellsOf (xs ++ putQuo q)) ∧ Onto w w' v v' := by
  obtain ⟨k, b, g⟩ := q
  have hg0 := Going.start #[.int .i64 k, .int .i64 b, .int .i64 g] 26 hown hb
  have HOWN := Lib.hid hown
  clear hown
  unfold qv
  go_enter Try.func51, Try.ntmps51
  go_wp2_with fail
  refine (putMeasure_any k v _ xs base _ hg0.own hg0.size (by omega)).mono ?_
  rintro e w1 ⟨v1, rfl, ho, hon⟩
  have hg1 := hg0.step ho hon
  have c1 := hg1.cell 1 rfl
  clear ho hon hg0
  go_wp2_with fail
  refine (putMeasure_any b v1 _ _ base _ hg1.own hg1.size (by omega)).mono ?_
  rintro e w2 ⟨v2, rfl, ho, hon⟩
  have hg2 := hg1.step ho hon
  have c2 := hg2.cell 2 rfl
  clear ho hon hg1 c1
  go_wp2_with fail
  refine (putMeasure_any g v2 _ _ base _ hg2.own hg2.size (by omega)).mono ?_
  rintro e w3 ⟨v3, rfl, ho, hon⟩
  have hg3 := hg2.step ho hon
  clear ho hon hg2 c2
  go_wp2_with fail
  go_ret
  exact ⟨_, rfl, row_eq hg3.own (by omega) (by simp [putQuo]), hg3.onto⟩
def opLen (tag : Int) (o : Op) : Nat := (putOp tag o).length
theorem putOp_le (tag : Int) (o : Op) : (putOp tag o).length ≤ 20 + o.key.size + o.val.size := by
  unfold putOp
  rw [List.length_append, text_length]
  split
  · simp; omega
  · rw [List.length_append, put_length]
    split
    · simp; omega
    · rw [List.length_append, put_length, text_length]; omega
/- The bytes of an op, behind any; its texts are short. -/
set_option maxRecDepth 100000 in
set_option maxHeartbeats 2000000 in
theorem putOp_any (tag : Int) (o : Op) (hi : OpIs o) (hk : o.key.size ≤ 65535) (hv : o.val.size ≤ 65535) (v : Value) (len : Nat) (xs : List Int) (base : Nat) (w : World)
    (hown : w.ownsRow base 5 1 v len (cellsOf xs)) (hb : base ≤ w.heap.size) (hl : len ≤ 1000000000) :
    Calls Try.prog 65 #[v, .int .i64 tag, ov o] w fun e w' => ∃ v', e = .returned v' ∧ w'.ownsRow base 5 1 v' (len + (putOp tag o).length) (cellsOf (xs ++ putOp tag o)) ∧ Onto w w' v v' := by
  obtain ⟨del, key, val, cond, ttl⟩ := o
  obtain ⟨hc, ht⟩ := hi
  simp only at hc ht hk hv
  have hg0 := Going.start #[.bool del, .string key, .string val, .int .u64 (cond : Int), .int .u64 (ttl : Int)] 87 hown hb
  have HOWN := Lib.hid hown
  clear hown
  unfold ov
  by_cases h7 : tag = 7
  · subst h7
    go_enter Try.func65, Try.ntmps65
    go_wp2_with fail
    refine (text_onto key hk v _ xs base _ hg0.own hg0.size (by omega)).mono ?_
    rintro e w1 ⟨v1, rfl, ho, hon⟩
    have hg1 := hg0.step ho hon
    clear ho hon hg0
    go_wp2_with fail
    go_ret
    exact ⟨_, rfl, row_eq hg1.own (by simp [putOp, text_length]; omega) (by simp [putOp]), hg1.onto⟩
  have h7' : (tag == 7) = false := beq_eq_false_iff_ne.2 h7
  cases del
  · go_enter Try.func65, Try.ntmps65
    go_wp2_with fail
    refine (text_onto key hk v _ xs base _ hg0.own hg0.size (by omega)).mono ?_
    rintro e w1 ⟨v1, rfl, ho, hon⟩
    have hg1 := hg0.step ho hon
    have c3 := hg1.cell 3 rfl
    clear ho hon hg0
    go_wp2_with fail
    refine (put_any cond hc 8 (by omega) (by omega) v1 _ _ base _ hg1.own hg1.size (by omega)).mono ?_
    rintro e w2 ⟨v2, rfl, ho, hon⟩
    have hg2 := hg1.step ho hon
    have c0 := hg2.cell 0 rfl
    have c2 := hg2.cell 2 rfl
    clear ho hon hg1 c3
    go_wp2_with fail
    refine (text_onto val hv v2 _ _ base _ hg2.own hg2.size (by omega)).mono ?_
    rintro e w3 ⟨v3, rfl, ho, hon⟩
    have hg3 := hg2.step ho hon
    have c4 := hg3.cell 4 rfl
    clear ho hon hg2 c0 c2
    go_wp2_with fail
    refine (put_any ttl ht 8 (by omega) (by omega) v3 _ _ base _ hg3.own hg3.size (by omega)).mono ?_
    rintro e w4 ⟨v4, rfl, ho, hon⟩
    have hg4 := hg3.step ho hon
    clear ho hon hg3 c4
    go_wp2_with fail
    go_ret
    exact ⟨_, rfl, row_eq hg4.own (by simp [putOp, h7, text_length, put_length]; omega) (by simp [putOp, h7]), hg4.onto⟩
  · go_enter Try.func65, Try.ntmps65
    go_wp2_with fail
    refine (text_onto key hk v _ xs base _ hg0.own hg0.size (by omega)).mono ?_
    rintro e w1 ⟨v1, rfl, ho, hon⟩
    have hg1 := hg0.step ho hon
    have c3 := hg1.cell 3 rfl
    clear ho hon hg0
    go_wp2_with fail
    refine (put_any cond hc 8 (by omega) (by omega) v1 _ _ base _ hg1.own hg1.size (by omega)).mono ?_
    rintro e w2 ⟨v2, rfl, ho, hon⟩
    have hg2 := hg1.step ho hon
    have c0 := hg2.cell 0 rfl
    clear ho hon hg1 c3
    go_wp2_with fail
    go_ret
    exact ⟨_, rfl, row_eq hg2.own (by simp [putOp, h7, text_length, put_length]; omega) (by simp [putOp, h7]), hg2.onto⟩
end Go.Proofs.Ytbdbbnpkekcefaa.Cmd
namespace Go.Proofs.Ytbdbbnpkekcefaa.Cmd
open Go.Proofs.Ytbdbbnpkekcefaa.Mem Go.Proofs.Ytbdbbnpkekcefaa.Pack
open Go.ChangeShapes Go.WideShapes Go.ChangeAt Go.RowKit
set_option linter.unusedVariables false
set_option linter.unusedSimpArgs false

structure Small (l : List Op) : Prop where
  is_ : ∀ o ∈ l, OpIs o
  key : ∀ o ∈ l, o.key.size ≤ 65535
  val : ∀ o ∈ l, o.val.size ≤ 65535
  few : l.length ≤ 1000
theorem putOne_le (tag : Int) (o : Op) : (putOne tag o).length ≤ 21 + o.key.size + o.val.size := by
  unfold putOne
  have := putOp_le tag o
  rw [List.length_append]
  split
  · rw [flag, put_length]; omega
  · simp; omega
theorem ops_take_le {tag : Int} {l : List Op} (h : Small l) (k : Nat) : ((l.take k).flatMap (putOne tag)).length ≤ 131091 * k := by
  induction k with
  | zero => simp
  | succ k ih =>
    rcases Nat.lt_or_ge k l.length with hk | hk
    · rw [List.take_succ_eq_append_getElem hk, List.flatMap_append, List.length_append]
      have h1 := h.key l[k] (List.getElem_mem hk)
      have h2 := h.val l[k] (List.getElem_mem hk)
      have h3 := putOne_le tag l[k]
      simp only [List.flatMap_cons, List.flatMap_nil, List.append_nil]
      omega
    · rw [List.take_of_length_le (by omega)] at ih ⊢
      omega
theorem ops_snoc (tag : Int) (l : List Op) (k : Nat) (hk : k < l.length) : (l.take (k + 1)).flatMap (putOne tag) = (l.take k).flatMap (putOne tag) ++ putOne tag l[k] := by
  rw [List.take_succ_eq_append_getElem hk, List.flatMap_append]
  simp
set_option maxRecDepth 100000 in
set_option maxHeartbeats 4000000 in
theorem putAll_any (tag : Int) (l : List Op) (hs : Small l) (sv : Value) (w0 : World) (hops : OpsAt w0 sv l) (v : Value) (len : Nat) (xs : List Int) (base : Nat) (w : World) (hw0 : base = w0.heap.size) (hbw : Below base w0 w)
    (hown : w.ownsRow base 5 1 v len (cellsOf xs)) (hl : len ≤ 500000000) :
    Calls Try.prog 53 #[v, .int .i64 tag, sv] w fun e w' => ∃ v', e = .returned v' ∧ w'.ownsRow base 5 1 v' (len + (putOps tag l).length) (cellsOf (xs ++ putOps tag l)) ∧ Onto w w' v v' := by
  obtain ⟨a, cap, rfl, hx⟩ := hops
  have hfew := hs.few
  have HX := Lib.hid hx
  have HS := Lib.hid hs
  have HBW := Lib.hid hbw
  have HOWN := Lib.hid hown
  have hbsz : base ≤ w.heap.size := by have := hbw.size; omega
  clear hx hs hbw
  by_cases h9 : tag = 9
  · subst h9
    have hn8 := wrap_u64_nat (n := l.length) (by omega)
    go_enter Try.func53, Try.ntmps53
    go_wp2_with fail
    refine (put_any l.length (by omega) 1 (by omega) (by omega) v len xs base w hown hbsz (by omega)).mono ?_
    rintro e w1 ⟨v1, rfl, ho1, hon1⟩
    have HO1 := Lib.hid (And.intro ho1 hon1)
    clear ho1 hon1 hown
    go_wp2_with fail
    go_loopw [0, 8, 18] (fun s p i wr => ∃ k : Nat, k ≤ l.length ∧ i = .int .i64 (k : Int) ∧ wr.ownsRow base 5 1 s (len + 1 + ((l.take k).flatMap (putOne 9)).length) (cellsOf (xs ++ put l.length 1 ++ (l.take k).flatMap (putOne 9))) ∧ Onto w wr v s) (fun _ _ i _ => l.length - (intOf i).toNat)
    case atStart => exact ⟨0, Nat.zero_le _, rfl, by simpa using HO1.out.1, HO1.out.2⟩
    case round =>
      obtain ⟨k, hk, rfl, ho, hon⟩ := hrel
      have hle := ops_take_le (tag := 9) HS.out k
      have hle' : ((l.take k).flatMap (putOne 9)).length ≤ 131091000 := Nat.le_trans hle (by omega)
      obtain ⟨m, hm⟩ : ∃ m, m = ((l.take k).flatMap (putOne 9)).length := ⟨_, rfl⟩
      rw [← hm] at ho hle'
      have HM := Lib.hid hm
      clear hm hle
      by_cases hlt : k < l.length
      · obtain ⟨b, off, rfl, hblt, hc⟩ := HX.out (by omega)
        have hbr : Below base w0 wr := HBW.out.trans (hon.below HOWN.out hbsz)
        obtain ⟨o, hoe⟩ : ∃ o, o = l[k] := ⟨_, rfl⟩
        have hmem : o ∈ l := hoe ▸ List.getElem_mem hlt
        have his := HS.out.is_ o hmem
        have hkey := HS.out.key o hmem
        have hval := HS.out.val o hmem
        have hcr : ∀ i (h : i < l.length) j u, (ocells l[i])[j]? = some u → wr.cell? ⟨b, off + i * 5 + j, none⟩ = some u := fun i hi j u hu => (hbr.cell (p := ⟨b, off + i * 5 + j, none⟩) (by show b < base; omega)).trans (hc i hi j u hu)
        obtain ⟨e0, e1, e2, e3, e4⟩ := OpsAt.cells hcr hlt hoe
        have HP := Lib.hid (fun v len xs base w hown hb hl => putOp_any 9 o his hkey hval v len xs base w hown hb hl)
        have HOE := Lib.hid hoe
        have hol := putOp_le 9 o
        have hg0 := Going.start #[.bool o.del, .string o.key, .string o.val, .int .u64 (o.cond : Int), .int .u64 (o.ttl : Int)] 87 ho (by have := hbr.size; omega)
        have HON := Lib.hid hon
        clear hoe hc hcr hbr his hkey hval ho hon
        unfold ov at HP
        go_wp2_with fail
        clear e0 e1 e2 e3 e4
        refine (putFlag_any o.del u0 _ _ base _ hg0.own hg0.size (by omega)).mono ?_
        rintro e w2 ⟨v2, rfl, ho2, hon2⟩
        have hg1 := hg0.step ho2 hon2
        have c0 := hg1.cell 0 rfl
        have c1 := hg1.cell 1 rfl
        have c2 := hg1.cell 2 rfl
        have c3 := hg1.cell 3 rfl
        have c4 := hg1.cell 4 rfl
        clear ho2 hon2 hg0
        go_wp2_with fail
        clear c0 c1 c2 c3 c4
        refine (HP.out v2 _ _ base _ hg1.own hg1.size (by omega)).mono ?_
        rintro e w3 ⟨v3, rfl, ho3, hon3⟩
        have hg2 := hg1.step ho3 hon3
        clear ho3 hon3 hg1
        have hone : m + (putOne 9 o).length = ((l.take (k + 1)).flatMap (putOne 9)).length := by rw [ops_snoc 9 l k hlt, List.length_append, HM.out, ← HOE.out]
        have hsn := ops_snoc 9 l k hlt
        rw [← HOE.out] at hsn
        have HE := Lib.hid (And.intro hone hsn)
        have H2 := Lib.hid (And.intro hg2.own hg2.onto)
        clear hg2 hone hsn
        go_wp2_with fail
        go_roundw
        case rel =>
          refine ⟨k + 1, by omega, by go_num, row_eq H2.out.1 ?_ ?_, HON.out.trans H2.out.2⟩
          · rw [← HE.out.1]; simp [putOne, flag, put_length]; omega
          · rw [HE.out.2]; simp [putOne]
        case measure => simp [intOf]; omega
      · have hkl : k = l.length := by omega
        subst hkl
        have hall : l.take l.length = l := List.take_of_length_le (Nat.le_refl _)
        rw [hall] at ho
        have HF := Lib.hid (And.intro ho hon)
        clear ho hon hlt hk
        go_wp2_with fail
        go_ret
        refine ⟨_, rfl, row_eq HF.out.1 ?_ ?_, HF.out.2⟩
        · have := HM.out; rw [hall] at this; unfold putOps; rw [if_pos rfl, List.length_append, put_length]; omega
        · simp [putOps]
  · have h9' : (tag == 9) = false := beq_eq_false_iff_ne.2 h9
    clear hown
    go_enter Try.func53, Try.ntmps53
    go_wp2_with fail
    go_loopw [0, 8, 18] (fun s p i wr => ∃ k : Nat, k ≤ l.length ∧ i = .int .i64 (k : Int) ∧ wr.ownsRow base 5 1 s (len + ((l.take k).flatMap (putOne tag)).length) (cellsOf (xs ++ (l.take k).flatMap (putOne tag))) ∧ Onto w wr v s) (fun _ _ i _ => l.length - (intOf i).toNat)
    case atStart => exact ⟨0, Nat.zero_le _, rfl, by simpa using HOWN.out, Onto.refl _ _⟩
    case round =>
      obtain ⟨k, hk, rfl, ho, hon⟩ := hrel
      have hle := ops_take_le (tag := tag) HS.out k
      have hle' : ((l.take k).flatMap (putOne tag)).length ≤ 131091000 := Nat.le_trans hle (by omega)
      obtain ⟨m, hm⟩ : ∃ m, m = ((l.take k).flatMap (putOne tag)).length := ⟨_, rfl⟩
      rw [← hm] at ho hle'
      have HM := Lib.hid hm
      clear hm hle
      by_cases hlt : k < l.length
      · obtain ⟨b, off, rfl, hblt, hc⟩ := HX.out (by omega)
        have hbr : Below base w0 wr := HBW.out.trans (hon.below HOWN.out hbsz)
        obtain ⟨o, hoe⟩ : ∃ o, o = l[k] := ⟨_, rfl⟩
        have hmem : o ∈ l := hoe ▸ List.getElem_mem hlt
        have his := HS.out.is_ o hmem
        have hkey := HS.out.key o hmem
        have hval := HS.out.val o hmem
        have hcr : ∀ i (h : i < l.length) j u, (ocells l[i])[j]? = some u → wr.cell? ⟨b, off + i * 5 + j, none⟩ = some u := fun i hi j u hu => (hbr.cell (p := ⟨b, off + i * 5 + j, none⟩) (by show b < base; omega)).trans (hc i hi j u hu)
        obtain ⟨e0, e1, e2, e3, e4⟩ := OpsAt.cells hcr hlt hoe
        have HP := Lib.hid (fun v len xs base w hown hb hl => putOp_any tag o his hkey hval v len xs base w hown hb hl)
        have HOE := Lib.hid hoe
        have hol := putOp_le tag o
        have hg0 := Going.start #[.bool o.del, .string o.key, .string o.val, .int .u64 (o.cond : Int), .int .u64 (o.ttl : Int)] 87 ho (by have := hbr.size; omega)
        have HON := Lib.hid hon
        clear hoe hc hcr hbr his hkey hval ho hon
        unfold ov at HP
        go_wp2_with fail
        clear e0 e1 e2 e3 e4
        refine (HP.out u0 _ _ base _ hg0.own hg0.size (by omega)).mono ?_
        rintro e w3 ⟨v3, rfl, ho3, hon3⟩
        have hg2 := hg0.step ho3 hon3
        clear ho3 hon3 hg0
        have hone : m + (putOne tag o).length = ((l.take (k + 1)).flatMap (putOne tag)).length := by rw [ops_snoc tag l k hlt, List.length_append, HM.out, ← HOE.out]
        have hsn := ops_snoc tag l k hlt
        rw [← HOE.out] at hsn
        have HE := Lib.hid (And.intro hone hsn)
        have H2 := Lib.hid (And.intro hg2.own hg2.onto)
        clear hg2 hone hsn
        go_wp2_with fail
        go_roundw
        case rel =>
          refine ⟨k + 1, by omega, by go_num, row_eq H2.out.1 ?_ ?_, HON.out.trans H2.out.2⟩
          · rw [← HE.out.1]; simp [putOne, h9]; omega
          · rw [HE.out.2]; simp [putOne, h9]
        case measure => simp [intOf]; omega
      · have hkl : k = l.length := by omega
        subst hkl
        have hall : l.take l.length = l := List.take_of_length_le (Nat.le_refl _)
        rw [hall] at ho
        have HF := Lib.hid (And.intro ho hon)
        clear ho hon hlt hk
        go_wp2_with fail
        go_ret
        refine ⟨_, rfl, row_eq HF.out.1 ?_ ?_, HF.out.2⟩
        · have := HM.out; rw [hall] at this; unfold putOps; rw [if_neg h9, List.nil_append]; omega
        · simp [putOps, h9]
end Go.Proofs.Ytbdbbnpkekcefaa.Cmd
namespace Go.Proofs.Ytbdbbnpkekcefaa.Cmd
open Go.Proofs.Ytbdbbnpkekcefaa.Mem Go.Proofs.Ytbdbbnpkekcefaa.Pack
open Go.ChangeShapes Go.WideShapes Go.ChangeAt Go.RowKit
set_option linter.unusedVariables false
set_option linter.unusedSimpArgs false

theorem parts_1 (w : World) : Calls Try.prog 43 #[.int .i64 1] w fun e w' => e = .returned (.int .i64 7) ∧ w = w' := by
  go_enter Try.func43, Try.ntmps43
  go_wp2
  go_ret
  exact ⟨rfl, rfl⟩
theorem parts_3 (w : World) : Calls Try.prog 43 #[.int .i64 3] w fun e w' => e = .returned (.int .i64 7) ∧ w = w' := by
  go_enter Try.func43, Try.ntmps43
  go_wp2
  go_ret
  exact ⟨rfl, rfl⟩
theorem parts_2 (w : World) : Calls Try.prog 43 #[.int .i64 2] w fun e w' => e = .returned (.int .i64 3) ∧ w = w' := by
  go_enter Try.func43, Try.ntmps43
  go_wp2
  go_ret
  exact ⟨rfl, rfl⟩
theorem parts_4 (w : World) : Calls Try.prog 43 #[.int .i64 4] w fun e w' => e = .returned (.int .i64 1) ∧ w = w' := by
  go_enter Try.func43, Try.ntmps43
  go_wp2
  go_ret
  exact ⟨rfl, rfl⟩
theorem parts_5 (w : World) : Calls Try.prog 43 #[.int .i64 5] w fun e w' => e = .returned (.int .i64 1) ∧ w = w' := by
  go_enter Try.func43, Try.ntmps43
  go_wp2
  go_ret
  exact ⟨rfl, rfl⟩
theorem parts_6 (w : World) : Calls Try.prog 43 #[.int .i64 6] w fun e w' => e = .returned (.int .i64 24) ∧ w = w' := by
  go_enter Try.func43, Try.ntmps43
  go_wp2
  go_ret
  exact ⟨rfl, rfl⟩
theorem parts_7 (w : World) : Calls Try.prog 43 #[.int .i64 7] w fun e w' => e = .returned (.int .i64 24) ∧ w = w' := by
  go_enter Try.func43, Try.ntmps43
  go_wp2
  go_ret
  exact ⟨rfl, rfl⟩
theorem parts_8 (w : World) : Calls Try.prog 43 #[.int .i64 8] w fun e w' => e = .returned (.int .i64 24) ∧ w = w' := by
  go_enter Try.func43, Try.ntmps43
  go_wp2
  go_ret
  exact ⟨rfl, rfl⟩
theorem parts_9 (w : World) : Calls Try.prog 43 #[.int .i64 9] w fun e w' => e = .returned (.int .i64 24) ∧ w = w' := by
  go_enter Try.func43, Try.ntmps43
  go_wp2
  go_ret
  exact ⟨rfl, rfl⟩
theorem parts_10 (w : World) : Calls Try.prog 43 #[.int .i64 10] w fun e w' => e = .returned (.int .i64 40) ∧ w = w' := by
  go_enter Try.func43, Try.ntmps43
  go_wp2
  go_ret
  exact ⟨rfl, rfl⟩
theorem parts_11 (w : World) : Calls Try.prog 43 #[.int .i64 11] w fun e w' => e = .returned (.int .i64 8) ∧ w = w' := by
  go_enter Try.func43, Try.ntmps43
  go_wp2
  go_ret
  exact ⟨rfl, rfl⟩
theorem parts_12 (w : World) : Calls Try.prog 43 #[.int .i64 12] w fun e w' => e = .returned (.int .i64 72) ∧ w = w' := by
  go_enter Try.func43, Try.ntmps43
  go_wp2
  go_ret
  exact ⟨rfl, rfl⟩
theorem parts_13 (w : World) : Calls Try.prog 43 #[.int .i64 13] w fun e w' => e = .returned (.int .i64 136) ∧ w = w' := by
  go_enter Try.func43, Try.ntmps43
  go_wp2
  go_ret
  exact ⟨rfl, rfl⟩
set_option maxHeartbeats 1000000 in
theorem parts_0 (t : Int) (h : t < 1 ∨ 13 < t) (w : World) : Calls Try.prog 43 #[.int .i64 t] w fun e w' => e = .returned (.int .i64 0) ∧ w = w' := by
  have d1 : (t == 1) = false := beq_eq_false_iff_ne.2 (by omega)
  have d2 : (t == 2) = false := beq_eq_false_iff_ne.2 (by omega)
  have d3 : (t == 3) = false := beq_eq_false_iff_ne.2 (by omega)
  have d4 : (t == 4) = false := beq_eq_false_iff_ne.2 (by omega)
  have d5 : (t == 5) = false := beq_eq_false_iff_ne.2 (by omega)
  have d6 : (t == 6) = false := beq_eq_false_iff_ne.2 (by omega)
  have d7 : (t == 7) = false := beq_eq_false_iff_ne.2 (by omega)
  have d8 : (t == 8) = false := beq_eq_false_iff_ne.2 (by omega)
  have d9 : (t == 9) = false := beq_eq_false_iff_ne.2 (by omega)
  have d10 : (t == 10) = false := beq_eq_false_iff_ne.2 (by omega)
  have d11 : (t == 11) = false := beq_eq_false_iff_ne.2 (by omega)
  have d12 : (t == 12) = false := beq_eq_false_iff_ne.2 (by omega)
  have d13 : (t == 13) = false := beq_eq_false_iff_ne.2 (by omega)
  clear h
  go_enter Try.func43, Try.ntmps43
  go_wp2
  go_ret
  exact ⟨rfl, rfl⟩
theorem parts_c1 {tag : Int} (h : tag = 1 ∨ tag = 3) (w : World) : Calls Try.prog 43 #[.int .i64 tag] w fun e w' => e = .returned (.int .i64 7) ∧ w = w' := by
  have hh : tag = 1 ∨ tag = 3 := by omega
  clear h
  rcases hh with rfl | rfl
  · exact parts_1 w
  · exact parts_3 w
theorem parts_c2 {tag : Int} (h : tag = 2) (w : World) : Calls Try.prog 43 #[.int .i64 tag] w fun e w' => e = .returned (.int .i64 3) ∧ w = w' := by
  have hh : tag = 2 := by omega
  clear h
  rcases hh with rfl
  · exact parts_2 w
theorem parts_c4 {tag : Int} (h : tag = 4 ∨ tag = 5) (w : World) : Calls Try.prog 43 #[.int .i64 tag] w fun e w' => e = .returned (.int .i64 1) ∧ w = w' := by
  have hh : tag = 4 ∨ tag = 5 := by omega
  clear h
  rcases hh with rfl | rfl
  · exact parts_4 w
  · exact parts_5 w
theorem parts_c6 {tag : Int} (h : 6 ≤ tag ∧ tag ≤ 9) (w : World) : Calls Try.prog 43 #[.int .i64 tag] w fun e w' => e = .returned (.int .i64 24) ∧ w = w' := by
  have hh : tag = 6 ∨ tag = 7 ∨ tag = 8 ∨ tag = 9 := by omega
  clear h
  rcases hh with rfl | rfl | rfl | rfl
  · exact parts_6 w
  · exact parts_7 w
  · exact parts_8 w
  · exact parts_9 w
theorem parts_c10 {tag : Int} (h : tag = 10) (w : World) : Calls Try.prog 43 #[.int .i64 tag] w fun e w' => e = .returned (.int .i64 40) ∧ w = w' := by
  have hh : tag = 10 := by omega
  clear h
  rcases hh with rfl
  · exact parts_10 w
theorem parts_c11 {tag : Int} (h : tag = 11) (w : World) : Calls Try.prog 43 #[.int .i64 tag] w fun e w' => e = .returned (.int .i64 8) ∧ w = w' := by
  have hh : tag = 11 := by omega
  clear h
  rcases hh with rfl
  · exact parts_11 w
theorem parts_c12 {tag : Int} (h : tag = 12) (w : World) : Calls Try.prog 43 #[.int .i64 tag] w fun e w' => e = .returned (.int .i64 72) ∧ w = w' := by
  have hh : tag = 12 := by omega
  clear h
  rcases hh with rfl
  · exact parts_12 w
theorem parts_c13 {tag : Int} (h : tag = 13) (w : World) : Calls Try.prog 43 #[.int .i64 tag] w fun e w' => e = .returned (.int .i64 136) ∧ w = w' := by
  have hh : tag = 13 := by omega
  clear h
  rcases hh with rfl
  · exact parts_13 w
end Go.Proofs.Ytbdbbnpkekcefaa.Cmd
