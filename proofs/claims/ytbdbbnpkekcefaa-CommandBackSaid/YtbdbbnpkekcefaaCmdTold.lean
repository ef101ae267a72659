/- The bytes of a response: the walk of command.putTold. -/
import Derived.Test.YtbdbbnpkekcefaaCmdPut
import Derived.Test.YtbdbbnpkekcefaaCmdCode
namespace Go.Proofs.Ytbdbbnpkekcefaa.Cmd
open Go.Proofs.Ytbdbbnpkekcefaa.Mem Go.Proofs.Ytbdbbnpkekcefaa.Pack
open Go.ChangeShapes Go.WideShapes Go.ChangeAt Go.RowKit
set_option linter.unusedVariables false
set_option linter.unusedSimpArgs false

def pairB (x : ByteArray × ByteArray) : List Int := text x.1 ++ text x.2
def intB (z : Int) : List Int := put (u64 z) 1
def told (r : Rs) : List Int := putTok r.tok ++ (put r.ver 8 ++ (text r.val ++ (put r.page.length 1 ++ (r.page.flatMap pairB ++ (flag r.more ++ (put (u64 r.keys) 8 ++ (put (u64 r.bytes) 8 ++ (put (u64 r.charged) 8 ++ (put r.seq 8 ++ (put r.buckets.length 1 ++ r.buckets.flatMap intB))))))))))
def encOf (r : Rs) : List Int := put (u64 r.code) 1 ++ (if r.code = 0 then told r else [])
structure RsSo (r : Rs) : Prop where
  code : I64 r.code
  tok : TokSo r.tok
  ver : r.ver < 18446744073709551616
  val : r.val.size ≤ 65535
  page : ∀ x ∈ r.page, x.1.size ≤ 65535 ∧ x.2.size ≤ 65535
  pages : r.page.length ≤ 1000
  seq : r.seq < 18446744073709551616
  buckets : r.buckets.length ≤ 1000
theorem pair_le {x : ByteArray × ByteArray} (h : x.1.size ≤ 65535 ∧ x.2.size ≤ 65535) : (pairB x).length ≤ 131074 := by
  unfold pairB
  rw [List.length_append, text_length, text_length]; omega
theorem page_take_le {l : List (ByteArray × ByteArray)} (h : ∀ x ∈ l, x.1.size ≤ 65535 ∧ x.2.size ≤ 65535) (k : Nat) : ((l.take k).flatMap pairB).length ≤ 131074 * k := by
  induction k with
  | zero => simp
  | succ k ih =>
    rcases Nat.lt_or_ge k l.length with hk | hk
    · rw [List.take_succ_eq_append_getElem hk, List.flatMap_append, List.length_append]
      have h1 := pair_le (h l[k] (List.getElem_mem hk))
      simp only [List.flatMap_cons, List.flatMap_nil, List.append_nil]
      omega
    · rw [List.take_of_length_le (by omega)] at ih ⊢
      omega
theorem flat_snoc {α : Type} (f : α → List Int) (l : List α) (k : Nat) (hk : k < l.length) : (l.take (k + 1)).flatMap f = (l.take k).flatMap f ++ f l[k] := by
  rw [List.take_succ_eq_append_getElem hk, List.flatMap_append]
  simp
theorem ints_len (l : List Int) : (l.flatMap intB).length = l.length := by
  induction l with
  | nil => rfl
  | cons z l ih => rw [List.flatMap_cons, List.length_append, ih, List.length_cons]; simp [intB, put_length]; omega
theorem Going.alloc {w0 w : World} {base B len : Nat} {t : TypeId} {cs : Array Value} {v0 v : Value} {xs : List Int} (h : Going w0 v0 base B t cs w v len xs) (o : Obj) : Going w0 v0 base B t cs (w.alloc o) v len xs :=
  ⟨ownsRow_alloc h.own o, h.box.but ((But.refl (fun _ => False) w).alloc o) (fun e => e), by have := h.size; simp; omega, h.ne, h.onto.alloc o⟩
theorem Going.eq {w0 w : World} {base B len len' : Nat} {t : TypeId} {cs : Array Value} {v0 v : Value} {xs ys : List Int} (h : Going w0 v0 base B t cs w v len xs) (hl : len = len') (hx : xs = ys) : Going w0 v0 base B t cs w v len' ys := by subst hl hx; exact h
set_option maxRecDepth 100000 in
set_option maxHeartbeats 8000000 in
theorem putTold_any (r : Rs) (hr : RsSo r) (pv bv : Value) (w0 : World) (lo : Nat) (hp : ShowsFrom pcells 2 lo w0 pv r.page) (hb : ShowsFrom icells 1 lo w0 bv r.buckets) (v : Value) (len : Nat) (xs : List Int) (base : Nat) (w : World) (hw0 : base = w0.heap.size) (hbw : Below base w0 w)
    (hown : w.ownsRow base 5 1 v len (cellsOf xs)) (hl : len ≤ 100000000) :
    Calls Try.prog 34 #[v, rsv r pv bv] w fun e w' => ∃ v', e = .returned v' ∧ w'.ownsRow base 5 1 v' (len + (told r).length) (cellsOf (xs ++ told r)) ∧ Onto w w' v v' := by
  obtain ⟨code, ⟨tb, tg, ts, tx⟩, ver, val, page, more, keys, bytes, charged, seq, buckets⟩ := r
  obtain ⟨hcode, htok, hver, hval, hpage, hpages, hseq, hbuckets⟩ := hr
  simp only at htok hver hval hpage hpages hseq hbuckets
  obtain ⟨pa, pc, hpv, hpx⟩ := hp
  have hpv : pv = .slice pa page.length pc := hpv
  subst hpv
  obtain ⟨ba, bc, hbv, hbx⟩ := hb
  have hbv : bv = .slice ba buckets.length bc := hbv
  subst hbv
  have hbsz : base ≤ w.heap.size := by have := hbw.size; omega
  have HPX := Lib.hid hpx
  have HBX := Lib.hid hbx
  have HPG := Lib.hid hpage
  have HBW := Lib.hid hbw
  have HOWN := Lib.hid hown
  have hg0 := Going.start #[.int .i64 code, .int .i64 tb, .int .u32 (tg : Int), .int .u32 (ts : Int), .int .u64 (tx : Int), .int .u64 (ver : Int), .string val, .slice pa page.length pc, .bool more, .int .i64 keys, .int .i64 bytes, .int .i64 charged, .int .u64 (seq : Int), .slice ba buckets.length bc] 49 hown hbsz
  have hn1 := wrap_u64_nat (n := page.length) (by omega)
  have hn2 := wrap_u64_nat (n := buckets.length) (by omega)
  have hle0 := page_take_le hpage page.length
  rw [List.take_of_length_le (Nat.le_refl _)] at hle0
  have HTOLD := Lib.hid (show told ⟨code, ⟨tb, tg, ts, tx⟩, ver, val, page, more, keys, bytes, charged, seq, buckets⟩ = putTok ⟨tb, tg, ts, tx⟩ ++ (put ver 8 ++ (text val ++ (put page.length 1 ++ (page.flatMap pairB ++ (flag more ++ (put (u64 keys) 8 ++ (put (u64 bytes) 8 ++ (put (u64 charged) 8 ++ (put seq 8 ++ (put buckets.length 1 ++ buckets.flatMap intB)))))))))) from rfl)
  obtain ⟨np, hnp⟩ : ∃ n, n = (page.flatMap pairB).length := ⟨_, rfl⟩
  rw [← hnp] at hle0
  have HNP := Lib.hid hnp
  clear hpx hbx hpage hbw hown hcode hnp
  unfold rsv scells
  go_enter Try.func34, Try.ntmps34
  go_wp2_with fail
  refine (putToken_any ⟨tb, tg, ts, tx⟩ htok v _ _ base _ hg0.own hg0.size (by omega)).mono ?_
  rintro e w1 ⟨v1, rfl, ho, hon⟩
  have hg1 := hg0.step ho hon
  have c5 := hg1.cell 5 rfl
  clear ho hon hg0
  go_wp2_with fail
  clear c5
  refine (put_any ver hver 8 (by omega) (by omega) v1 _ _ base _ hg1.own hg1.size (by omega)).mono ?_
  rintro e w2 ⟨v2, rfl, ho, hon⟩
  have hg2 := hg1.step ho hon
  have c6 := hg2.cell 6 rfl
  clear ho hon hg1
  go_wp2_with fail
  clear c6
  refine (text_onto val hval v2 _ _ base _ hg2.own hg2.size (by omega)).mono ?_
  rintro e w3 ⟨v3, rfl, ho, hon⟩
  have hg3 := hg2.step ho hon
  have c7 := hg3.cell 7 rfl
  clear ho hon hg2
  go_wp2_with fail
  clear c7
  refine (put_any page.length (by omega) 1 (by omega) (by omega) v3 _ _ base _ hg3.own hg3.size (by omega)).mono ?_
  rintro e w4 ⟨v4, rfl, ho, hon⟩
  have hg4 := hg3.step ho hon
  have c7 := hg4.cell 7 rfl
  have HG4 := Lib.hid hg4
  clear ho hon hg3 hg4
  go_wp2_with fail
  go_loopw [0, 6, 30] (fun s p i wr => ∃ k : Nat, k ≤ page.length ∧ i = .int .i64 (k : Int) ∧ Going w v base w.heap.size 49 #[.int .i64 code, .int .i64 tb, .int .u32 (tg : Int), .int .u32 (ts : Int), .int .u64 (tx : Int), .int .u64 (ver : Int), .string val, .slice pa page.length pc, .bool more, .int .i64 keys, .int .i64 bytes, .int .i64 charged, .int .u64 (seq : Int), .slice ba buckets.length bc] wr s (len + 17 + 8 + 2 + val.size + 1 + ((page.take k).flatMap pairB).length) (xs ++ putTok ⟨tb, tg, ts, tx⟩ ++ put ver 8 ++ text val ++ put page.length 1 ++ (page.take k).flatMap pairB)) (fun _ _ i _ => page.length - (intOf i).toNat)
  case atStart => exact ⟨0, Nat.zero_le _, rfl, HG4.out.eq (by simp; try omega) (by simp)⟩
  case round =>
    obtain ⟨k, hk, rfl, hg⟩ := hrel
    have hle := page_take_le HPG.out k
    have hle' : ((page.take k).flatMap pairB).length ≤ 131074000 := Nat.le_trans hle (by omega)
    obtain ⟨m, hm⟩ : ∃ m, m = ((page.take k).flatMap pairB).length := ⟨_, rfl⟩
    rw [← hm] at hg hle'
    have HM := Lib.hid hm
    clear hm hle HG4 c7
    by_cases hlt : k < page.length
    · obtain ⟨b, off, rfl, hlo, hblt, hc⟩ := HPX.out (show 0 < page.length by omega)
      have hbr : Below base w0 wr := HBW.out.trans (hg.onto.below HOWN.out hbsz)
      obtain ⟨⟨x1, x2⟩, hxe⟩ : ∃ x, x = page[k] := ⟨_, rfl⟩
      have hsz := HPG.out (x1, x2) (hxe ▸ List.getElem_mem hlt)
      have e0 : wr.cell? ⟨b, off + k * 2, none⟩ = some (.string x1) := (hbr.cell (p := ⟨b, off + k * 2, none⟩) (by show b < base; omega)).trans (hc k hlt 0 _ (by rw [← hxe]; rfl))
      have e1 : wr.cell? ⟨b, off + k * 2 + 1, none⟩ = some (.string x2) := (hbr.cell (p := ⟨b, off + k * 2 + 1, none⟩) (by show b < base; omega)).trans (hc k hlt 1 _ (by rw [← hxe]; rfl))
      have hI0 := Going.start #[.string x1, .string x2] 52 hg.own hg.size
      have hO0 := hg.alloc (.cells #[.string x1, .string x2] 52)
      have HXE := Lib.hid hxe
      obtain ⟨hs1, hs2⟩ := hsz
      simp only at hs1 hs2
      clear hxe hc hbr hg
      go_wp2_with fail
      clear e0 e1
      refine (text_onto x1 hs1 u0 _ _ base _ hI0.own hI0.size (by omega)).mono ?_
      rintro e w5 ⟨v5, rfl, ho, hon⟩
      have hI1 := hI0.step ho hon
      have hO1 := hO0.step ho hon
      have c1 := hI1.cell 1 rfl
      clear ho hon hI0 hO0
      go_wp2_with fail
      clear c1
      refine (text_onto x2 hs2 v5 _ _ base _ hI1.own hI1.size (by omega)).mono ?_
      rintro e w6 ⟨v6, rfl, ho, hon⟩
      have hO2 := hO1.step ho hon
      clear ho hon hI1 hO1
      have HO2 := Lib.hid hO2
      clear hO2
      go_wp2_with fail
      go_roundw
      case rel =>
        refine ⟨k + 1, by omega, by go_num, HO2.out.eq ?_ ?_⟩
        · rw [flat_snoc _ _ _ hlt, List.length_append, ← HM.out, ← HXE.out]; unfold pairB; rw [List.length_append, text_length, text_length]; simp only; omega
        · rw [flat_snoc _ _ _ hlt, ← HXE.out]; simp [pairB]
      case measure => simp [intOf]; omega
    · have hkl : k = page.length := by omega
      subst hkl
      have hm2 : m = np := by rw [HM.out, HNP.out, List.take_of_length_le (Nat.le_refl _)]
      have hg := hg.eq (by rw [hm2]) (by rw [List.take_of_length_le (Nat.le_refl _)])
      have c8 := hg.cell 8 rfl
      clear hlt hk hm2 hle'
      go_wp2_with fail
      clear c8
      refine (putFlag_any more u0 _ _ base _ hg.own hg.size (by omega)).mono ?_
      rintro e w5 ⟨v5, rfl, ho, hon⟩
      have hg5 := hg.step ho hon
      have c9 := hg5.cell 9 rfl
      clear ho hon hg
      go_wp2_with fail
      clear c9
      refine (putMeasure_any keys v5 _ _ base _ hg5.own hg5.size (by omega)).mono ?_
      rintro e w6 ⟨v6, rfl, ho, hon⟩
      have hg6 := hg5.step ho hon
      have c10 := hg6.cell 10 rfl
      clear ho hon hg5
      go_wp2_with fail
      clear c10
      refine (putMeasure_any bytes v6 _ _ base _ hg6.own hg6.size (by omega)).mono ?_
      rintro e w7 ⟨v7, rfl, ho, hon⟩
      have hg7 := hg6.step ho hon
      have c11 := hg7.cell 11 rfl
      clear ho hon hg6
      go_wp2_with fail
      clear c11
      refine (putMeasure_any charged v7 _ _ base _ hg7.own hg7.size (by omega)).mono ?_
      rintro e w8 ⟨v8, rfl, ho, hon⟩
      have hg8 := hg7.step ho hon
      have c12 := hg8.cell 12 rfl
      clear ho hon hg7
      go_wp2_with fail
      clear c12
      refine (put_any seq hseq 8 (by omega) (by omega) v8 _ _ base _ hg8.own hg8.size (by omega)).mono ?_
      rintro e w9 ⟨v9, rfl, ho, hon⟩
      have hg9 := hg8.step ho hon
      have c13 := hg9.cell 13 rfl
      clear ho hon hg8
      go_wp2_with fail
      clear c13
      refine (put_any buckets.length (by omega) 1 (by omega) (by omega) v9 _ _ base _ hg9.own hg9.size (by omega)).mono ?_
      rintro e wA ⟨vA, rfl, ho, hon⟩
      have hgA := hg9.step ho hon
      have c13 := hgA.cell 13 rfl
      clear ho hon hg9
      obtain ⟨XS, hXS⟩ : ∃ X, X = xs ++ putTok ⟨tb, tg, ts, tx⟩ ++ put ver 8 ++ text val ++ put page.length 1 ++ page.flatMap pairB ++ flag more ++ put (u64 keys) 8 ++ put (u64 bytes) 8 ++ put (u64 charged) 8 ++ put seq 8 ++ put buckets.length 1 := ⟨_, rfl⟩
      rw [← hXS] at hgA
      obtain ⟨LN, hLN⟩ : ∃ n, n = len + 17 + 8 + 2 + val.size + 1 + np + 1 + 8 + 8 + 8 + 8 + 1 := ⟨_, rfl⟩
      rw [← hLN] at hgA
      have HGA := Lib.hid hgA
      have HXS := Lib.hid (And.intro hXS hLN)
      have hLNle : LN ≤ 500000000 := by omega
      clear hgA hXS hLN
      go_wp2_with fail
      go_loopw [0, 8, 72] (fun s p i wr => ∃ k : Nat, k ≤ buckets.length ∧ i = .int .i64 (k : Int) ∧ Going w v base w.heap.size 49 #[.int .i64 code, .int .i64 tb, .int .u32 (tg : Int), .int .u32 (ts : Int), .int .u64 (tx : Int), .int .u64 (ver : Int), .string val, .slice pa page.length pc, .bool more, .int .i64 keys, .int .i64 bytes, .int .i64 charged, .int .u64 (seq : Int), .slice ba buckets.length bc] wr s (LN + k) (XS ++ (buckets.take k).flatMap intB)) (fun _ _ i _ => buckets.length - (intOf i).toNat)
      case atStart => exact ⟨0, Nat.zero_le _, rfl, HGA.out.eq rfl (by simp)⟩
      case round =>
        obtain ⟨k, hk, rfl, hg⟩ := hrel
        clear HGA c13
        by_cases hlt : k < buckets.length
        · obtain ⟨b, off, rfl, hlo, hblt, hc⟩ := HBX.out (show 0 < buckets.length by omega)
          have hbr : Below base w0 _ := HBW.out.trans (hg.onto.below HOWN.out hbsz)
          obtain ⟨z, hze⟩ : ∃ x, x = buckets[k] := ⟨_, rfl⟩
          have e0 := (hbr.cell (p := ⟨b, off + k, none⟩) (by show b < base; omega)).trans (show w0.cell? ⟨b, off + k, none⟩ = some (.int .i64 z) from by have := hc k hlt 0 (.int .i64 z) (by rw [← hze]; rfl); simpa using this)
          have HZE := Lib.hid hze
          have hw := wrap_u64 z
          have hzl := u64_lt z
          clear hze hc hbr
          go_wp2_with fail
          clear e0
          refine (put_any (u64 z) hzl 1 (by omega) (by omega) _ _ _ base _ hg.own hg.size (by omega)).mono ?_
          rintro e w6 ⟨v6, rfl, ho, hon⟩
          have HO2 := Lib.hid (hg.step ho hon)
          clear ho hon hg
          go_wp2_with fail
          go_roundw
          case rel =>
            refine ⟨k + 1, by omega, by go_num, HO2.out.eq (by omega) ?_⟩
            rw [flat_snoc _ _ _ hlt, ← HZE.out]; simp [intB]
          case measure => simp [intOf]; omega
        · have hkl : k = buckets.length := by omega
          subst hkl
          have hg := hg.eq rfl (by rw [List.take_of_length_le (Nat.le_refl _)])
          have HG := Lib.hid hg
          clear hg hlt hk
          go_wp2_with fail
          go_ret
          refine ⟨_, rfl, row_eq HG.out.own ?_ ?_, HG.out.onto⟩
          · rw [HTOLD.out, HXS.out.2]
            simp only [List.length_append, put_length, text_length, ints_len, flag, putTok, ← HNP.out]
            omega
          · rw [HTOLD.out, HXS.out.1]
            simp only [List.append_assoc]
end Go.Proofs.Ytbdbbnpkekcefaa.Cmd
