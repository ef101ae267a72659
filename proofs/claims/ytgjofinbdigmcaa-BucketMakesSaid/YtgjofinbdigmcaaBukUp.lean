/- What a record makes, told; the law's up and the document's Quota. -/
import Derived.Test.YtgjofinbdigmcaaBukToks
import Derived.Test.YtgjofinbdigmcaaBukOpen
namespace Go.Proofs.Ytgjofinbdigmcaa.Buk
open Go.Proofs.Ytgjofinbdigmcaa.Mem
open Go.ChangeShapes Go.WideShapes Go.ChangeAt Go.RowKit
set_option linter.unusedVariables false
set_option linter.unusedSimpArgs false
theorem app_put {B : Bk} {T : Tab} {r : Rcd} {p : Spt} (ho : Own B r) (hk : r.kind = 3) : told B r = true ∧ app B T r p = { B with bytes := tot (all (Key.put T (entOf r p))), seq := b64 B.seq r.version, charged := B.charged + Rec.costOf r } ∧ appT B T r p = Key.put T (entOf r p) := by
  have ht : told B r = true := by unfold told; rw [decide_eq_true ho, hk]; rfl
  unfold app appT madeT made
  rw [ht, hk]
  exact ⟨rfl, rfl, rfl⟩
theorem app_del {B : Bk} {T : Tab} {r : Rcd} {p : Spt} (ho : Own B r) (hk : r.kind = 4) : told B r = true ∧ app B T r p = { B with bytes := tot (all (Key.del T r.key)), seq := b64 B.seq r.version, charged := B.charged + Rec.costOf r } ∧ appT B T r p = Key.del T r.key := by
  have ht : told B r = true := by unfold told; rw [decide_eq_true ho, hk]; rfl
  unfold app appT madeT made
  rw [ht, hk]
  exact ⟨rfl, rfl, rfl⟩
def putR (id : Int) (gen : Nat) (key val : ByteArray) (ver exp : Nat) : Rcd := ⟨3, id, gen, 0, 0, 0, 0, 0, 0, 0, key, val, ver, exp⟩
def delR (id : Int) (gen : Nat) (key : ByteArray) (ver : Nat) : Rcd := ⟨4, id, gen, 0, 0, 0, 0, 0, 0, 0, key, Rec.nothing, ver, 0⟩
theorem may_put {id : Int} {gen : Nat} {key val : ByteArray} {ver exp : Nat} (hid : 0 ≤ id ∧ id < 64) (hg : 1 ≤ gen) (hk : 1 ≤ key.size ∧ key.size ≤ 64) (hv : val.size ≤ 1000) : Rec.May (putR id gen key val ver exp) :=
  ⟨by show (1 : Int) ≤ 3; omega, by show (3 : Int) ≤ 7; omega, hid.1, hid.2, hg, by simp [putR, Rec.named], by simp [putR, Rec.fits, Rec.keyMay]; omega⟩
theorem may_del {id : Int} {gen : Nat} {key : ByteArray} {ver : Nat} (hid : 0 ≤ id ∧ id < 64) (hg : 1 ≤ gen) (hk : 1 ≤ key.size ∧ key.size ≤ 64) : Rec.May (delR id gen key ver) :=
  ⟨by show (1 : Int) ≤ 4; omega, by show (4 : Int) ≤ 7; omega, hid.1, hid.2, hg, by simp [delR, Rec.named], by simp [delR, Rec.fits, Rec.keyMay]; omega⟩
theorem is_put {id : Int} {gen : Nat} {key val : ByteArray} {ver exp : Nat} (hid : 0 ≤ id ∧ id < 64) (hg : gen < 4294967296) (hk : key.size ≤ 64) (hv : val.size ≤ 1000) (h1 : ver < 18446744073709551616) (h2 : exp < 18446744073709551616) : Rec.Is (putR id gen key val ver exp) := by
  unfold putR
  constructor <;> (try dsimp only) <;> omega
theorem is_del {id : Int} {gen : Nat} {key : ByteArray} {ver : Nat} (hid : 0 ≤ id ∧ id < 64) (hg : gen < 4294967296) (hk : key.size ≤ 64) (h1 : ver < 18446744073709551616) : Rec.Is (delR id gen key ver) := by
  have : Rec.nothing.size = 0 := rfl
  unfold delR
  constructor <;> (try dsimp only) <;> omega
theorem is_zero : Rec.Is Rec.zero := by
  have : Rec.nothing.size = 0 := rfl
  unfold Rec.zero
  constructor <;> (try dsimp only) <;> omega
theorem sp_small {a b c : Nat} (ha : a ≤ 100) (hb : b ≤ 100) (hc : c ≤ 100) : SpOk ((a : Int), (b : Int), (c : Int)) := ⟨by show _ ≤ (a : Int) ∧ (a : Int) ≤ _; omega, by show _ ≤ (b : Int) ∧ (b : Int) ≤ _; omega, by show _ ≤ (c : Int) ∧ (c : Int) ≤ _; omega⟩
theorem told_zero (B : Bk) : told B Rec.zero = false := by
  unfold told
  rw [decide_eq_false (fun h : Own B Rec.zero => by have := h.1.1; have h2 : (1 : Int) ≤ 0 := this; omega)]
  rfl
theorem agg_rec (w : World) : (isAgg 31).run Try.prog w = .ok false w ∧ (isAgg 23).run Try.prog w = .ok true w := by
  refine ⟨?_, ?_⟩
  · simp [isAgg, run_underlying Try.underlying31]
  · simp [isAgg, run_underlying Try.underlying23]
theorem size_quota (w : World) : (sizeOf 23).run Try.prog w = .ok 3 w := by
  obtain ⟨i, hi, hc⟩ := Option.map_eq_some_iff.1 quota_size
  simp [sizeOf, typeInfo, hi, hc]
theorem field_seq (v0 v1 v2 v3 v4 v5 v6 v7 v8 v9 v10 v11 v12 v13 : Value) (w : World) : (Instr.field 33 (.agg #[v0, v1, v2, v3, v4, v5, v6, v7, v8, v9, v10, v11, v12, v13]) 4).run Try.prog w = .ok v6 w := by
  have h1 := (agg_rec w).1
  simp [Instr.field, run_underlying Try.underlying33, part, h1, asAgg]
theorem field_quota (v0 v1 v2 v3 v4 v5 v6 v7 v8 v9 v10 v11 v12 v13 : Value) (w : World) : (Instr.field 33 (.agg #[v0, v1, v2, v3, v4, v5, v6, v7, v8, v9, v10, v11, v12, v13]) 3).run Try.prog w = .ok (.agg #[v3, v4, v5]) w := by
  have h1 := (agg_rec w).2
  have h2 := size_quota w
  simp [Instr.field, run_underlying Try.underlying33, part, h1, h2, asAgg]
def keyA : ByteArray := ⟨#[97]⟩
def valX : ByteArray := ⟨#[120, 121]⟩
theorem keyA_size : keyA.size = 1 := rfl
theorem valX_size : valX.size = 2 := rfl
set_option maxRecDepth 100000 in
set_option maxHeartbeats 2000000 in
theorem up_any (w : World) : Calls Try.prog 4 #[] w fun e w' => e = .returned (.bool true) ∧ But (fun _ => False) w w' := by
  have ho0 := ok_new 3 1 0 0 0 (by omega) (by omega)
  have hmay : Rec.May (putR 3 1 keyA valX 1 0) := may_put (by omega) (by omega) (by rw [keyA_size]; omega) (by rw [valX_size]; omega)
  have hown : Own (newB 3 1 0 0 0) (putR 3 1 keyA valX 1 0) := ⟨hmay, rfl, rfl⟩
  have hap := app_put (T := noT) (p := ((1 : Nat), (0 : Nat), (0 : Nat))) hown rfl
  have his := is_put (id := 3) (gen := 1) (key := keyA) (val := valX) (ver := 1) (exp := 0) (by omega) (by omega) (by rw [keyA_size]; omega) (by rw [valX_size]; omega) (by omega) (by omega)
  have hsp : SpOk (((1 : Nat) : Int), ((0 : Nat) : Int), ((0 : Nat) : Int)) := sp_small (by omega) (by omega) (by omega)
  have hgn : Key.Good noT 0 := Key.good_new
  have hask : Key.ask (Key.put noT (entOf (putR 3 1 keyA valX 1 0) (((1 : Nat) : Int), ((0 : Nat) : Int), ((0 : Nat) : Int)))) keyA = some (entOf (putR 3 1 keyA valX 1 0) (((1 : Nat) : Int), ((0 : Nat) : Int), ((0 : Nat) : Int))) := by
    rw [Key.ask_put hgn]; rfl
  have hasn : Key.ask noT keyA = none := by
    unfold Key.ask
    rw [Key.look_new]
  have hcnt : Key.cnt (Key.put noT (entOf (putR 3 1 keyA valX 1 0) (((1 : Nat) : Int), ((0 : Nat) : Int), ((0 : Nat) : Int)))) = 1 := by
    rw [Key.cnt_put hgn, show (entOf (putR 3 1 keyA valX 1 0) (((1 : Nat) : Int), ((0 : Nat) : Int), ((0 : Nat) : Int))).key = keyA from rfl, hasn, Key.cnt_new]
    rfl
  have hbyt : tot (all (Key.put noT (entOf (putR 3 1 keyA valX 1 0) (((1 : Nat) : Int), ((0 : Nat) : Int), ((0 : Nat) : Int))))) = 3 := by
    rw [tot_put hgn, show (entOf (putR 3 1 keyA valX 1 0) (((1 : Nat) : Int), ((0 : Nat) : Int), ((0 : Nat) : Int))).key = keyA from rfl, hasn, all_new]
    rfl
  have HF := Lib.hid (And.intro ho0 (And.intro hap (And.intro his (And.intro hsp (And.intro hask (And.intro hcnt hbyt))))))
  clear ho0 hmay hown hap his hsp hgn hask hasn hcnt hbyt
  go_enter Try.func4, Try.ntmps4
  go_wp2_with fail
  refine (new_any 3 1 0 0 0 _).mono ?_
  rintro e w1 ⟨s, rfl, hm, hf, hb⟩
  have HM := Lib.hid (And.intro hm (And.intro hf hb))
  clear hm hf hb
  go_wp2_with fail
  refine (apply_any HM.out.1 HF.out.1 (by omega) (putR 3 1 keyA valX 1 0) HF.out.2.2.1 _ HF.out.2.2.2.1).mono ?_
  rintro e w2 ⟨rfl, hmade⟩
  rw [HF.out.2.1.1]
  rw [HF.out.2.1.2.1, HF.out.2.1.2.2] at hmade
  obtain ⟨s1, m1, hm1, ho1, hs1⟩ := hmade
  have HM1 := Lib.hid (And.intro hm1 (And.intro ho1 hs1))
  have hp1 : s1.p = s.p := hs1.p
  have HP1 := Lib.hid hp1
  clear hm1 ho1 hs1
  have hget := get_any HM1.out.1 keyA (by rw [keyA_size]; omega)
  rw [HF.out.2.2.2.2.1, hp1] at hget
  have HG := Lib.hid hget
  clear hget hp1
  go_wp2_with fail
  refine HG.out.mono ?_
  rintro e w3 ⟨rfl, hb3⟩
  have HX0 := Lib.hid (Blk.new w3 39 (entB Key.zero))
  have HX1 := Lib.hid ((But.refl (fun _ => False) w3).alloc (.cells (entB Key.zero) 39))
  obtain ⟨b4, hb4⟩ : ∃ b, b = w3.heap.size := ⟨_, rfl⟩
  have HXT := Lib.hid (blk_there0 (n := 7) HX0.out (by rfl))
  rw [← hb4] at HX0 HXT
  have HXX := Lib.hid (And.intro (blk_set0 (vs := Key.ecells (Key.ent ((some (entOf (putR 3 1 keyA valX 1 0) (((1 : Nat) : Int), ((0 : Nat) : Int), ((0 : Nat) : Int))))))) HX0.out (by rw [Key.ecells_length]; rfl)) (HX1.out.trans (but_setCells b4 (Key.ecells (Key.ent ((some (entOf (putR 3 1 keyA valX 1 0) (((1 : Nat) : Int), ((0 : Nat) : Int), ((0 : Nat) : Int))))))) 0 (w3.alloc (.cells (entB Key.zero) 39))) (fun j hj e => by omega)))
  obtain ⟨W4, hW4⟩ : ∃ W, W = (w3.alloc (.cells (entB Key.zero) 39)).setCells b4 0 (Key.ecells (Key.ent ((some (entOf (putR 3 1 keyA valX 1 0) (((1 : Nat) : Int), ((0 : Nat) : Int), ((0 : Nat) : Int))))))) := ⟨_, rfl⟩
  rw [← hW4] at HXX
  have HXE := Lib.hid hW4
  have HXS := Lib.hid hb4
  clear hW4 hb4 HX0 HX1
  have HM4 := Lib.hid (HM1.out.1.new (hb3.trans HXX.out.2 (fun _ _ h => h)))
  have HB4 := Lib.hid (hb3.trans HXX.out.2 (fun _ _ h => h))
  have x6 : W4.cell? ⟨b4, 6, none⟩ = some (.int .i64 2) := HXX.out.1.cell 6
  have hmeta := meta_any HM4.out
  rw [HP1.out] at hmeta
  have HMT := Lib.hid (show Calls Try.prog 12 #[.pointer (some ⟨s.p, 0, none⟩)] W4 fun e w' => e = .returned (.agg #[.int .i64 1, .int .i64 3, .int .u32 1, .int .i64 0, .int .i64 0, .int .i64 0, .int .u64 2, .int .u32 1, .int .i64 0, .int .u64 0, .string Rec.nothing, .string Rec.nothing, .int .u64 0, .int .u64 0]) ∧ But (fun _ => False) W4 w' from hmeta)
  clear hmeta hb3
  go_wp2_with (rw [← HXS.out]; refine wpList_store_mid rfl 39 _ _ rfl b4 0 (Key.ecells (Key.ent ((some (entOf (putR 3 1 keyA valX 1 0) (((1 : Nat) : Int), ((0 : Nat) : Int), ((0 : Nat) : Int))))))).toArray rfl rfl (by simp only [List.size_toArray, Key.ecells_length]; exact HXT.out) (by simp only [List.size_toArray, Key.ecells_length]; exact Key.entry_size) (all_oneCell_toArray (Key.ecells_one _)) ?_; change wpList _ _ _ _ _ ((w3.alloc (.cells (entB Key.zero) 39)).setCells b4 0 (Key.ecells (Key.ent ((some (entOf (putR 3 1 keyA valX 1 0) (((1 : Nat) : Int), ((0 : Nat) : Int), ((0 : Nat) : Int)))))))); rw [← HXE.out])
  refine HMT.out.mono ?_
  rintro e w5 ⟨rfl, hb5⟩
  have HM5 := Lib.hid (HM4.out.new hb5)
  have hk5 := keys_any HM5.out
  rw [HP1.out, HF.out.2.2.2.2.2.1] at hk5
  have HK5 := Lib.hid hk5
  clear hk5 x6
  have fs := field_seq
  go_wp2_with fail
  clear fs
  refine HK5.out.mono ?_
  rintro e w6 ⟨rfl, hb6⟩
  have HM6 := Lib.hid (HM5.out.new hb6)
  have hk6 := bytes_any HM6.out
  rw [HP1.out] at hk6
  have HK6 := Lib.hid hk6
  clear hk6
  go_wp2_with fail
  refine HK6.out.mono ?_
  rintro e w7 ⟨rfl, hw7⟩
  subst hw7
  (try dsimp only)
  rw [HF.out.2.2.2.2.2.2]
  go_wp2_with fail
  have hz := apply_any HM6.out HM1.out.2.1 (by omega) Rec.zero is_zero (((0 : Nat) : Int), ((0 : Nat) : Int), ((0 : Nat) : Int)) (sp_small (by omega) (by omega) (by omega))
  rw [HP1.out, told_zero] at hz
  refine hz.mono ?_
  rintro e w8 ⟨rfl, s8, m8, hm8, ho8, hs8⟩
  have HE := Lib.hid (show But (fun _ => False) w w8 from by
    have h1 := HM.out.2.2.trans HM1.out.2.2.but (fun j hj hf => by have := HM.out.2.1 j hf; omega)
    have h2 := ((h1.trans HB4.out (fun _ _ h => h)).trans hb5 (fun _ _ h => h)).trans hb6 (fun _ _ h => h)
    refine h2.trans hs8.but (fun j hj hf => ?_)
    rcases HM1.out.2.2.new j hf with h3 | h3
    · have := HM.out.2.1 j h3; omega
    · have := HM.out.2.2.size; omega)
  clear hz hm8 ho8 hs8
  go_wp2_with fail
  go_ret
  exact ⟨rfl, HE.out⟩
end Go.Proofs.Ytgjofinbdigmcaa.Buk
