/- The bytes of all ops: the walk of command.putOps. -/
import Derived.Test.YtbdbbnpkekcefaaCmdPut
namespace Go.Proofs.Ytbdbbnpkekcefaa.Cmd
open Go.Proofs.Ytbdbbnpkekcefaa.Mem Go.Proofs.Ytbdbbnpkekcefaa.Pack
open Go.ChangeShapes Go.WideShapes Go.ChangeAt Go.RowKit
set_option linter.unusedVariables false
set_option linter.unusedSimpArgs false

structure Small (l : List Op) : Prop where
  is_ : ∀ o ∈ l, OpIs o
  key : ∀ o ∈ l, o.key.size ≤ 65535
  val : ∀ o ∈ l, o.val.size ≤ 65535
  few : l.length ≤ 1000
theorem putOne_le (tag : Int) (o : Op) : (putOne tag o).length ≤ 21 + o.key.size + o.val.size := by
  unfold putOne
  have := putOp_le tag o
  rw [List.length_append]
  split
  · rw [flag, put_length]; omega
  · simp; omega
theorem ops_take_le {tag : Int} {l : List Op} (h : Small l) (k : Nat) : ((l.take k).flatMap (putOne tag)).length ≤ 131091 * k := by
  induction k with
  | zero => simp
  | succ k ih =>
    rcases Nat.lt_or_ge k l.length with hk | hk
    · rw [List.take_succ_eq_append_getElem hk, List.flatMap_append, List.length_append]
      have h1 := h.key l[k] (List.getElem_mem hk)
      have h2 := h.val l[k] (List.getElem_mem hk)
      have h3 := putOne_le tag l[k]
      simp only [List.flatMap_cons, List.flatMap_nil, List.append_nil]
      omega
    · rw [List.take_of_length_le (by omega)] at ih ⊢
      omega
theorem ops_snoc (tag : Int) (l : List Op) (k : Nat) (hk : k < l.length) : (l.take (k + 1)).flatMap (putOne tag) = (l.take k).flatMap (putOne tag) ++ putOne tag l[k] := by
  rw [List.take_succ_eq_append_getElem hk, List.flatMap_append]
  simp
set_option maxRecDepth 100000 in
set_option maxHeartbeats 4000000 in
theorem putAll_any (tag : Int) (l : List Op) (hs : Small l) (sv : Value) (w0 : World) (hops : OpsAt w0 sv l) (v : Value) (len : Nat) (xs : List Int) (base : Nat) (w : World) (hw0 : base = w0.heap.size) (hbw : Below base w0 w)
    (hown : w.ownsRow base 5 1 v len (cellsOf xs)) (hl : len ≤ 500000000) :
    Calls Try.prog 53 #[v, .int .i64 tag, sv] w fun e w' => ∃ v', e = .returned v' ∧ w'.ownsRow base 5 1 v' (len + (putOps tag l).length) (cellsOf (xs ++ putOps tag l)) ∧ Onto w w' v v' := by
  obtain ⟨a, cap, rfl, hx⟩ := hops
  have hfew := hs.few
  have HX := Lib.hid hx
  have HS := Lib.hid hs
  have HBW := Lib.hid hbw
  have HOWN := Lib.hid hown
  have hbsz : base ≤ w.heap.size := by have := hbw.size; omega
  clear hx hs hbw
  by_cases h9 : tag = 9
  · subst h9
    have hn8 := wrap_u64_nat (n := l.length) (by omega)
    go_enter Try.func53, Try.ntmps53
    go_wp2_with fail
    refine (put_any l.length (by omega) 1 (by omega) (by omega) v len xs base w hown hbsz (by omega)).mono ?_
    rintro e w1 ⟨v1, rfl, ho1, hon1⟩
    have HO1 := Lib.hid (And.intro ho1 hon1)
    clear ho1 hon1 hown
    go_wp2_with fail
    go_loopw [0, 8, 18] (fun s p i wr => ∃ k : Nat, k ≤ l.length ∧ i = .int .i64 (k : Int) ∧ wr.ownsRow base 5 1 s (len + 1 + ((l.take k).flatMap (putOne 9)).length) (cellsOf (xs ++ put l.length 1 ++ (l.take k).flatMap (putOne 9))) ∧ Onto w wr v s) (fun _ _ i _ => l.length - (intOf i).toNat)
    case atStart => exact ⟨0, Nat.zero_le _, rfl, by simpa using HO1.out.1, HO1.out.2⟩
    case round =>
      obtain ⟨k, hk, rfl, ho, hon⟩ := hrel
      have hle := ops_take_le (tag := 9) HS.out k
      have hle' : ((l.take k).flatMap (putOne 9)).length ≤ 131091000 := Nat.le_trans hle (by omega)
      obtain ⟨m, hm⟩ : ∃ m, m = ((l.take k).flatMap (putOne 9)).length := ⟨_, rfl⟩
      rw [← hm] at ho hle'
      have HM := Lib.hid hm
      clear hm hle
      by_cases hlt : k < l.length
      · obtain ⟨b, off, rfl, hblt, hc⟩ := HX.out (by omega)
        have hbr : Below base w0 wr := HBW.out.trans (hon.below HOWN.out hbsz)
        obtain ⟨o, hoe⟩ : ∃ o, o = l[k] := ⟨_, rfl⟩
        have hmem : o ∈ l := hoe ▸ List.getElem_mem hlt
        have his := HS.out.is_ o hmem
        have hkey := HS.out.key o hmem
        have hval := HS.out.val o hmem
        have hcr : ∀ i (h : i < l.length) j u, (ocells l[i])[j]? = some u → wr.cell? ⟨b, off + i * 5 + j, none⟩ = some u := fun i hi j u hu => (hbr.cell (p := ⟨b, off + i * 5 + j, none⟩) (by show b < base; omega)).trans (hc i hi j u hu)
        obtain ⟨e0, e1, e2, e3, e4⟩ := OpsAt.cells hcr hlt hoe
        have HP := Lib.hid (fun v len xs base w hown hb hl => putOp_any 9 o his hkey hval v len xs base w hown hb hl)
        have HOE := Lib.hid hoe
        have hol := putOp_le 9 o
        have hg0 := Going.start #[.bool o.del, .string o.key, .string o.val, .int .u64 (o.cond : Int), .int .u64 (o.ttl : Int)] 87 ho (by have := hbr.size; omega)
        have HON := Lib.hid hon
        clear hoe hc hcr hbr his hkey hval ho hon
        unfold ov at HP
        go_wp2_with fail
        clear e0 e1 e2 e3 e4
        refine (putFlag_any o.del u0 _ _ base _ hg0.own hg0.size (by omega)).mono ?_
        rintro e w2 ⟨v2, rfl, ho2, hon2⟩
        have hg1 := hg0.step ho2 hon2
        have c0 := hg1.cell 0 rfl
        have c1 := hg1.cell 1 rfl
        have c2 := hg1.cell 2 rfl
        have c3 := hg1.cell 3 rfl
        have c4 := hg1.cell 4 rfl
        clear ho2 hon2 hg0
        go_wp2_with fail
        clear c0 c1 c2 c3 c4
        refine (HP.out v2 _ _ base _ hg1.own hg1.size (by omega)).mono ?_
        rintro e w3 ⟨v3, rfl, ho3, hon3⟩
        have hg2 := hg1.step ho3 hon3
        clear ho3 hon3 hg1
        have hone : m + (putOne 9 o).length = ((l.take (k + 1)).flatMap (putOne 9)).length := by rw [ops_snoc 9 l k hlt, List.length_append, HM.out, ← HOE.out]
        have hsn := ops_snoc 9 l k hlt
        rw [← HOE.out] at hsn
        have HE := Lib.hid (And.intro hone hsn)
        have H2 := Lib.hid (And.intro hg2.own hg2.onto)
        clear hg2 hone hsn
        go_wp2_with fail
        go_roundw
        case rel =>
          refine ⟨k + 1, by omega, by go_num, row_eq H2.out.1 ?_ ?_, HON.out.trans H2.out.2⟩
          · rw [← HE.out.1]; simp [putOne, flag, put_length]; omega
          · rw [HE.out.2]; simp [putOne]
        case measure => simp [intOf]; omega
      · have hkl : k = l.length := by omega
        subst hkl
        have hall : l.take l.length = l := List.take_of_length_le (Nat.le_refl _)
        rw [hall] at ho
        have HF := Lib.hid (And.intro ho hon)
        clear ho hon hlt hk
        go_wp2_with fail
        go_ret
        refine ⟨_, rfl, row_eq HF.out.1 ?_ ?_, HF.out.2⟩
        · have := HM.out; rw [hall] at this; unfold putOps; rw [if_pos rfl, List.length_append, put_length]; omega
        · simp [putOps]
  · have h9' : (tag == 9) = false := beq_eq_false_iff_ne.2 h9
    clear hown
    go_enter Try.func53, Try.ntmps53
    go_wp2_with fail
    go_loopw [0, 8, 18] (fun s p i wr => ∃ k : Nat, k ≤ l.length ∧ i = .int .i64 (k : Int) ∧ wr.ownsRow base 5 1 s (len + ((l.take k).flatMap (putOne tag)).length) (cellsOf (xs ++ (l.take k).flatMap (putOne tag))) ∧ Onto w wr v s) (fun _ _ i _ => l.length - (intOf i).toNat)
    case atStart => exact ⟨0, Nat.zero_le _, rfl, by simpa using HOWN.out, Onto.refl _ _⟩
    case round =>
      obtain ⟨k, hk, rfl, ho, hon⟩ := hrel
      have hle := ops_take_le (tag := tag) HS.out k
      have hle' : ((l.take k).flatMap (putOne tag)).length ≤ 131091000 := Nat.le_trans hle (by omega)
      obtain ⟨m, hm⟩ : ∃ m, m = ((l.take k).flatMap (putOne tag)).length := ⟨_, rfl⟩
      rw [← hm] at ho hle'
      have HM := Lib.hid hm
      clear hm hle
      by_cases hlt : k < l.length
      · obtain ⟨b, off, rfl, hblt, hc⟩ := HX.out (by omega)
        have hbr : Below base w0 wr := HBW.out.trans (hon.below HOWN.out hbsz)
        obtain ⟨o, hoe⟩ : ∃ o, o = l[k] := ⟨_, rfl⟩
        have hmem : o ∈ l := hoe ▸ List.getElem_mem hlt
        have his := HS.out.is_ o hmem
        have hkey := HS.out.key o hmem
        have hval := HS.out.val o hmem
        have hcr : ∀ i (h : i < l.length) j u, (ocells l[i])[j]? = some u → wr.cell? ⟨b, off + i * 5 + j, none⟩ = some u := fun i hi j u hu => (hbr.cell (p := ⟨b, off + i * 5 + j, none⟩) (by show b < base; omega)).trans (hc i hi j u hu)
        obtain ⟨e0, e1, e2, e3, e4⟩ := OpsAt.cells hcr hlt hoe
        have HP := Lib.hid (fun v len xs base w hown hb hl => putOp_any tag o his hkey hval v len xs base w hown hb hl)
        have HOE := Lib.hid hoe
        have hol := putOp_le tag o
        have hg0 := Going.start #[.bool o.del, .string o.key, .string o.val, .int .u64 (o.cond : Int), .int .u64 (o.ttl : Int)] 87 ho (by have := hbr.size; omega)
        have HON := Lib.hid hon
        clear hoe hc hcr hbr his hkey hval ho hon
        unfold ov at HP
        go_wp2_with fail
        clear e0 e1 e2 e3 e4
        refine (HP.out u0 _ _ base _ hg0.own hg0.size (by omega)).mono ?_
        rintro e w3 ⟨v3, rfl, ho3, hon3⟩
        have hg2 := hg0.step ho3 hon3
        clear ho3 hon3 hg0
        have hone : m + (putOne tag o).length = ((l.take (k + 1)).flatMap (putOne tag)).length := by rw [ops_snoc tag l k hlt, List.length_append, HM.out, ← HOE.out]
        have hsn := ops_snoc tag l k hlt
        rw [← HOE.out] at hsn
        have HE := Lib.hid (And.intro hone hsn)
        have H2 := Lib.hid (And.intro hg2.own hg2.onto)
        clear hg2 hone hsn
        go_wp2_with fail
        go_roundw
        case rel =>
          refine ⟨k + 1, by omega, by go_num, row_eq H2.out.1 ?_ ?_, HON.out.trans H2.out.2⟩
          · rw [← HE.out.1]; simp [putOne, h9]; omega
          · rw [HE.out.2]; simp [putOne, h9]
        case measure => simp [intOf]; omega
      · have hkl : k = l.length := by omega
        subst hkl
        have hall : l.take l.length = l := List.take_of_length_le (Nat.le_refl _)
        rw [hall] at ho
        have HF := Lib.hid (And.intro ho hon)
        clear ho hon hlt hk
        go_wp2_with fail
        go_ret
        refine ⟨_, rfl, row_eq HF.out.1 ?_ ?_, HF.out.2⟩
        · have := HM.out; rw [hall] at this; unfold putOps; rw [if_neg h9, List.nil_append]; omega
        · simp [putOps, h9]
end Go.Proofs.Ytbdbbnpkekcefaa.Cmd
