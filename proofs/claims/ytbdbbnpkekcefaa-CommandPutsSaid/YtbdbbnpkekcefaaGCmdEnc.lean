/- In one text: Whether a number is a code; what is denied. The bytes of a response: the walk of command.putTold. What Encode answers; whether a request's parts are few, as the law asks. -/
import Derived.Test.YtbdbbnpkekcefaaCmdMem
import Derived.Test.YtbdbbnpkekcefaaGCmdPut
namespace Go.Proofs.Ytbdbbnpkekcefaa.Cmd
open Go.Proofs.Ytbdbbnpkekcefaa.Mem Go.Proofs.Ytbdbbnpkekcefaa.Pack
open Go.ChangeShapes Go.WideShapes Go.ChangeAt Go.RowKit
set_option linter.unusedVariables false
set_option linter.unusedSimpArgs false
/- A response: its pairs, and its buckets, in slices. -/
structure Rs where
  code : Int
  tok : Tok
  ver : Nat
  val : ByteArray
  page : List (ByteArray × ByteArray)
  more : Bool
  keys : Int
  bytes : Int
  charged : Int
  seq : Nat
  buckets : List Int
def pcells (x : ByteArray × ByteArray) : List Value := [.string x.1, .string x.2]
def icells (z : Int) : List Value := [.int .i64 z]
def scells (r : Rs) (pv bv : Value) : Array Value := #[.int .i64 r.code, .int .i64 r.tok.b, .int .u32 (r.tok.g : Int), .int .u32 (r.tok.s : Int), .int .u64 (r.tok.x : Int), .int .u64 (r.ver : Int), .string r.val, pv, .bool r.more, .int .i64 r.keys, .int .i64 r.bytes, .int .i64 r.charged, .int .u64 (r.seq : Int), bv]
def rsv (r : Rs) (pv bv : Value) : Value := .agg (scells r pv bv)
/- A slice that shows a list, each of so many cells. -/
def ShowsFrom {α : Type} (f : α → List Value) (k lo : Nat) (w : World) (v : Value) (l : List α) : Prop :=
  ∃ a cap, v = .slice a l.length cap ∧ (0 < l.length → ∃ b off, a = some ⟨b, off, none⟩ ∧ lo ≤ b ∧ b < w.heap.size ∧ ∀ i (h : i < l.length) j u, (f l[i])[j]? = some u → w.cell? ⟨b, off + i * k + j, none⟩ = some u)
section
variable {α : Type} {f : α → List Value} {k lo : Nat} {w w' : World} {v : Value} {l : List α}
theorem ShowsFrom.but {S : Nat → Prop} (h : ShowsFrom f k lo w v l) (hb : But S w w') (hS : ∀ j, lo ≤ j → j < w.heap.size → ¬ S j) : ShowsFrom f k lo w' v l := by
  obtain ⟨a, cap, e, hc⟩ := h
  refine ⟨a, cap, e, fun h0 => ?_⟩
  obtain ⟨b, off, h1, hlo, hlt, hx⟩ := hc h0
  exact ⟨b, off, h1, hlo, Nat.lt_of_lt_of_le hlt hb.size, fun i hi j u hu => (hb.cell (p := ⟨b, off + i * k + j, none⟩) hlt (hS b hlo hlt)).trans (hx i hi j u hu)⟩
theorem ShowsFrom.below (h : ShowsFrom f k lo w v l) (hb : Below w.heap.size w w') : ShowsFrom f k lo w' v l := h.but (S := fun _ => False) (But.of_new hb) (fun _ _ _ e => e)
theorem ShowsFrom.new (h : ShowsFrom f k lo w v l) (hb : But (fun _ => False) w w') : ShowsFrom f k lo w' v l := h.but hb (fun _ _ _ e => e)
theorem ShowsFrom.mono {lo' : Nat} (h : ShowsFrom f k lo w v l) (hl : lo' ≤ lo) : ShowsFrom f k lo' w v l := by
  obtain ⟨a, cap, e, hc⟩ := h
  refine ⟨a, cap, e, fun h0 => ?_⟩
  obtain ⟨b, off, h1, hlo, hlt, hx⟩ := hc h0
  exact ⟨b, off, h1, Nat.le_trans hl hlo, hlt, hx⟩
theorem ShowsFrom.nil (f : α → List Value) (k lo : Nat) (w : World) : ShowsFrom f k lo w (.slice none 0 0) [] := ⟨none, 0, rfl, fun h => absurd h (by simp)⟩
theorem shows_of_own {base : Nat} {e : TypeId} (hf : ∀ x, (f x).length = k) (h : w.ownsRow base e k v l.length (l.flatMap f)) : ShowsFrom f k base w v l := by
  rcases h.2 with ⟨hv, hn⟩ | ⟨g, cap, cur, hv, hg, hh, hnc, hcm, hcs, ht⟩
  · exact ⟨none, 0, by rw [hv, hn], fun h0 => absurd h0 (by omega)⟩
  · refine ⟨_, cap, hv, fun _ => ⟨g, 0, rfl, hg, (h.lt g (by rw [hv]; rfl)).2, fun i hil j u hu => ?_⟩⟩
    have hj : j < k := by rw [← hf l[i]]; exact (List.getElem?_eq_some_iff.1 hu).1
    have h1 := flat_get (f := f) hf (l := l) (i := i) (j := j) (x := l[i]) (List.getElem?_eq_getElem hil) hj
    have hlen : (l.flatMap f).length = l.length * k := flat_length hf l
    have hsub : World.ownsRow w base e k (.slice (some ⟨g, 0, none⟩) l.length cap) l.length (l.flatMap f) := by rw [← hv]; exact h
    have h2 := hsub.cellAt (i * k + j) (by have : (i + 1) * k ≤ l.length * k := Nat.mul_le_mul_right k hil; rw [Nat.add_mul, Nat.one_mul] at this; omega)
    rw [Nat.zero_add, h2, h1, hu]
end
theorem isCode_any (n : Int) (w : World) : Calls Try.prog 40 #[.int .i64 n] w fun e w' => e = .returned (.bool (decide (0 ≤ n ∧ n ≤ 15))) ∧ w = w' := by
  by_cases h1 : 0 ≤ n
  · by_cases h2 : n ≤ 15
    · have d2 : decide (n ≤ 15) = true := decide_eq_true h2
      rw [decide_eq_true (⟨h1, h2⟩ : 0 ≤ n ∧ n ≤ 15)]
      go_enter Try.func40, Try.ntmps40
      go_wp2
      go_ret
      exact ⟨rfl, rfl⟩
    · have d2 : decide (n ≤ 15) = false := decide_eq_false h2
      rw [decide_eq_false (fun e : 0 ≤ n ∧ n ≤ 15 => h2 e.2)]
      go_enter Try.func40, Try.ntmps40
      go_wp2
      go_ret
      exact ⟨rfl, rfl⟩
  · have d1 : decide (0 ≤ n) = false := decide_eq_false h1
    rw [decide_eq_false (fun e : 0 ≤ n ∧ n ≤ 15 => h1 e.1)]
    go_enter Try.func40, Try.ntmps40
    go_wp2
    go_ret
    exact ⟨rfl, rfl⟩
end Go.Proofs.Ytbdbbnpkekcefaa.Cmd
namespace Go.Proofs.Ytbdbbnpkekcefaa.Cmd
open Go.Proofs.Ytbdbbnpkekcefaa.Mem Go.Proofs.Ytbdbbnpkekcefaa.Pack
open Go.ChangeShapes Go.WideShapes Go.ChangeAt Go.RowKit
set_option linter.unusedVariables false
set_option linter.unusedSimpArgs false

def pairB (x : ByteArray × ByteArray) : List Int := text x.1 ++ text x.2
def intB (z : Int) : List Int := put (u64 z) 1
def told (r : Rs) : List Int := putTok r.tok ++ (put r.ver 8 ++ (text r.val ++ (put r.page.length 1 ++ (r.page.flatMap pairB ++ (flag r.more ++ (put (u64 r.keys) 8 ++ (put (u64 r.bytes) 8 ++ (put (u64 r.charged) 8 ++ (put r.seq 8 ++ (put r.buckets.length 1 ++ r.buckets.flatMap intB))))))))))
def encOf (r : Rs) : List Int := put (u64 r.code) 1 ++ (if r.code = 0 then told r else [])
structure RsSo (r : Rs) : Prop where
  code : I64 r.code
  tok : TokSo r.tok
  ver : r.ver < 18446744073709551616
  val : r.val.size ≤ 65535
  page : ∀ x ∈ r.page, x.1.size ≤ 65535 ∧ x.2.size ≤ 65535
  pages : r.page.length ≤ 1000
  seq : r.seq < 18446744073709551616
  buckets : r.buckets.length ≤ 1000
theorem pair_le {x : ByteArray × ByteArray} (h : x.1.size ≤ 65535 ∧ x.2.size ≤ 65535) : (pairB x).length ≤ 131074 := by
  unfold pairB
  rw [List.length_append, text_length, text_length]; omega
theorem page_take_le {l : List (ByteArray × ByteArray)} (h : ∀ x ∈ l, x.1.size ≤ 65535 ∧ x.2.size ≤ 65535) (k : Nat) : ((l.take k).flatMap pairB).length ≤ 131074 * k := by
  induction k with
  | zero => simp
  | succ k ih =>
    rcases Nat.lt_or_ge k l.length with hk | hk
    · rw [List.take_succ_eq_append_getElem hk, List.flatMap_append, List.length_append]
      have h1 := pair_le (h l[k] (List.getElem_mem hk))
      simp only [List.flatMap_cons, List.flatMap_nil, List.append_nil]
      omega
    · rw [List.take_of_length_le (by omega)] at ih ⊢
      omega
theorem flat_snoc {α : Type} (f : α → List Int) (l : List α) (k : Nat) (hk : k < l.length) : (l.take (k + 1)).flatMap f = (l.take k).flatMap f ++ f l[k] := by
  rw [List.take_succ_eq_append_getElem hk, List.flatMap_append]
  simp
theorem ints_len (l : List Int) : (l.flatMap intB).length = l.length := by
  induction l with
  | nil => rfl
  | cons z l ih => rw [List.flatMap_cons, List.length_append, ih, List.length_cons]; simp [intB, put_length]; omega
theorem Going.alloc {w0 w : World} {base B len : Nat} {t : TypeId} {cs : Array Value} {v0 v : Value} {xs : List Int} (h : Going w0 v0 base B t cs w v len xs) (o : Obj) : Going w0 v0 base B t cs (w.alloc o) v len xs :=
  ⟨ownsRow_alloc h.own o, h.box.but ((But.refl (fun _ => False) w).alloc o) (fun e => e), by have := h.size; simp; omega, h.ne, h.onto.alloc o⟩
theorem Going.eq {w0 w : World} {base B len len' : Nat} {t : TypeId} {cs : Array Value} {v0 v : Value} {xs ys : List Int} (h : Going w0 v0 base B t cs w v len xs) (hl : len = len') (hx : xs = ys) : Going w0 v0 base B t cs w v len' ys := by subst hl hx; exact h
set_option maxRecDepth 100000 in
set_option maxHeartbeats 8000000 in
theorem putTold_any (r : Rs) (hr : RsSo r) (pv bv : Value) (w0 : World) (lo : Nat) (hp : ShowsFrom pcells 2 lo w0 pv r.page) (hb : ShowsFrom icells 1 lo w0 bv r.buckets) (v : Value) (len : Nat) (xs : List Int) (base : Nat) (w : World) (hw0 : base = w0.heap.size) (hbw : Below base w0 w)
    (hown : w.ownsRow base 5 1 v len (cellsOf xs)) (hl : len ≤ 100000000) :
    Calls Try.prog 34 #[v, rsv r pv bv] w fun e w' => ∃ v', e = .returned v' ∧ w'.ownsRow base 5 1 v' (len + (told r).length) (cellsOf (xs ++ told r)) ∧ Onto w w' v v' := by
  obtain ⟨code, ⟨tb, tg, ts, tx⟩, ver, val, page, more, keys, bytes, charged, seq, buckets⟩ := r
  obtain ⟨hcode, htok, hver, hval, hpage, hpages, hseq, hbuckets⟩ := hr
  simp only at htok hver hval hpage hpages hseq hbuckets
  obtain ⟨pa, pc, hpv, hpx⟩ := hp
  have hpv : pv = .slice pa page.length pc := hpv
  subst hpv
  obtain ⟨ba, bc, hbv, hbx⟩ := hb
  have hbv : bv = .slice ba buckets.length bc := hbv
  subst hbv
  have hbsz : base ≤ w.heap.size := by have := hbw.size; omega
  have HPX := Lib.hid hpx
  have HBX := Lib.hid hbx
  have HPG := Lib.hid hpage
  have HBW := Lib.hid hbw
  have HOWN := Lib.hid hown
  have hg0 := Going.start #[.int .i64 code, .int .i64 tb, .int .u32 (tg : Int), .int .u32 (ts : Int), .int .u64 (tx : Int), .int .u64 (ver : Int), .string val, .slice pa page.length pc, .bool more, .int .i64 keys, .int .i64 bytes, .int .i64 charged, .int .u64 (seq : Int), .slice ba buckets.length bc] 49 hown hbsz
  have hn1 := wrap_u64_nat (n := page.length) (by omega)
  have hn2 := wrap_u64_nat (n := buckets.length) (by omega)
  have hle0 := page_take_le hpage page.length
  rw [List.take_of_length_le (Nat.le_refl _)] at hle0
  have HTOLD := Lib.hid (show told ⟨code, ⟨tb, tg, ts, tx⟩, ver, val, page, more, keys, bytes, charged, seq, buckets⟩ = putTok ⟨tb, tg, ts, tx⟩ ++ (put ver 8 ++ (text val ++ (put page.length 1 ++ (page.flatMap pairB ++ (flag more ++ (put (u64 keys) 8 ++ (put (u64 bytes) 8 ++ (put (u64 charged) 8 ++ (put seq 8 ++ (put buckets.length 1 ++ buckets.flatMap intB)))))))))) from rfl)
  obtain ⟨np, hnp⟩ : ∃ n, n = (page.flatMap pairB).length := ⟨_, rfl⟩
  rw [← hnp] at hle0
  have HNP := Lib.hid hnp
  clear hpx hbx hpage hbw hown hcode hnp
  unfold rsv scells
  go_enter Try.func34, Try.ntmps34
  go_wp2_with fail
  refine (putToken_any ⟨tb, tg, ts, tx⟩ htok v _ _ base _ hg0.own hg0.size (by omega)).mono ?_
  rintro e w1 ⟨v1, rfl, ho, hon⟩
  have hg1 := hg0.step ho hon
  have c5 := hg1.cell 5 rfl
  clear ho hon hg0
  go_wp2_with fail
  clear c5
  refine (put_any ver hver 8 (by omega) (by omega) v1 _ _ base _ hg1.own hg1.size (by omega)).mono ?_
  rintro e w2 ⟨v2, rfl, ho, hon⟩
  have hg2 := hg1.step ho hon
  have c6 := hg2.cell 6 rfl
  clear ho hon hg1
  go_wp2_with fail
  clear c6
  refine (text_onto val hval v2 _ _ base _ hg2.own hg2.size (by omega)).mono ?_
  rintro e w3 ⟨v3, rfl, ho, hon⟩
  have hg3 := hg2.step ho hon
  have c7 := hg3.cell 7 rfl
  clear ho hon hg2
  go_wp2_with fail
  clear c7
  refine (put_any page.length (by omega) 1 (by omega) (by omega) v3 _ _ base _ hg3.own hg3.size (by omega)).mono ?_
  rintro e w4 ⟨v4, rfl, ho, hon⟩
  have hg4 := hg3.step ho hon
  have c7 := hg4.cell 7 rfl
  have HG4 := Lib.hid hg4
  clear ho hon hg3 hg4
  go_wp2_with fail
  go_loopw [0, 6, 30] (fun s p i wr => ∃ k : Nat, k ≤ page.length ∧ i = .int .i64 (k : Int) ∧ Going w v base w.heap.size 49 #[.int .i64 code, .int .i64 tb, .int .u32 (tg : Int), .int .u32 (ts : Int), .int .u64 (tx : Int), .int .u64 (ver : Int), .string val, .slice pa page.length pc, .bool more, .int .i64 keys, .int .i64 bytes, .int .i64 charged, .int .u64 (seq : Int), .slice ba buckets.length bc] wr s (len + 17 + 8 + 2 + val.size + 1 + ((page.take k).flatMap pairB).length) (xs ++ putTok ⟨tb, tg, ts, tx⟩ ++ put ver 8 ++ text val ++ put page.length 1 ++ (page.take k).flatMap pairB)) (fun _ _ i _ => page.length - (intOf i).toNat)
  case atStart => exact ⟨0, Nat.zero_le _, rfl, HG4.out.eq (by simp; try omega) (by simp)⟩
  case round =>
    obtain ⟨k, hk, rfl, hg⟩ := hrel
    have hle := page_take_le HPG.out k
    have hle' : ((page.take k).flatMap pairB).length ≤ 131074000 := Nat.le_trans hle (by omega)
    obtain ⟨m, hm⟩ : ∃ m, m = ((page.take k).flatMap pairB).length := ⟨_, rfl⟩
    rw [← hm] at hg hle'
    have HM := Lib.hid hm
    clear hm hle HG4 c7
    by_cases hlt : k < page.length
    · obtain ⟨b, off, rfl, hlo, hblt, hc⟩ := HPX.out (show 0 < page.length by omega)
      have hbr : Below base w0 wr := HBW.out.trans (hg.onto.below HOWN.out hbsz)
      obtain ⟨⟨x1, x2⟩, hxe⟩ : ∃ x, x = page[k] := ⟨_, rfl⟩
      have hsz := HPG.out (x1, x2) (hxe ▸ List.getElem_mem hlt)
      have e0 : wr.cell? ⟨b, off + k * 2, none⟩ = some (.string x1) := (hbr.cell (p := ⟨b, off + k * 2, none⟩) (by show b < base; omega)).trans (hc k hlt 0 _ (by rw [← hxe]; rfl))
      have e1 : wr.cell? ⟨b, off + k * 2 + 1, none⟩ = some (.string x2) := (hbr.cell (p := ⟨b, off + k * 2 + 1, none⟩) (by show b < base; omega)).trans (hc k hlt 1 _ (by rw [← hxe]; rfl))
      have hI0 := Going.start #[.string x1, .string x2] 52 hg.own hg.size
      have hO0 := hg.alloc (.cells #[.string x1, .string x2] 52)
      have HXE := Lib.hid hxe
      obtain ⟨hs1, hs2⟩ := hsz
      simp only at hs1 hs2
      clear hxe hc hbr hg
      go_wp2_with fail
      clear e0 e1
      refine (text_onto x1 hs1 u0 _ _ base _ hI0.own hI0.size (by omega)).mono ?_
      rintro e w5 ⟨v5, rfl, ho, hon⟩
      have hI1 := hI0.step ho hon
      have hO1 := hO0.step ho hon
      have c1 := hI1.cell 1 rfl
      clear ho hon hI0 hO0
      go_wp2_with fail
      clear c1
      refine (text_onto x2 hs2 v5 _ _ base _ hI1.own hI1.size (by omega)).mono ?_
      rintro e w6 ⟨v6, rfl, ho, hon⟩
      have hO2 := hO1.step ho hon
      clear ho hon hI1 hO1
      have HO2 := Lib.hid hO2
      clear hO2
      go_wp2_with fail
      go_roundw
      case rel =>
        refine ⟨k + 1, by omega, by go_num, HO2.out.eq ?_ ?_⟩
        · rw [flat_snoc _ _ _ hlt, List.length_append, ← HM.out, ← HXE.out]; unfold pairB; rw [List.length_append, text_length, text_length]; simp only; omega
        · rw [flat_snoc _ _ _ hlt, ← HXE.out]; simp [pairB]
      case measure => simp [intOf]; omega
    · have hkl : k = page.length := by omega
      subst hkl
      have hm2 : m = np := by rw [HM.out, HNP.out, List.take_of_length_le (Nat.le_refl _)]
      have hg := hg.eq (by rw [hm2]) (by rw [List.take_of_length_le (Nat.le_refl _)])
      have c8 := hg.cell 8 rfl
      clear hlt hk hm2 hle'
      go_wp2_with fail
      clear c8
      refine (putFlag_any more u0 _ _ base _ hg.own hg.size (by omega)).mono ?_
      rintro e w5 ⟨v5, rfl, ho, hon⟩
      have hg5 := hg.step ho hon
      have c9 := hg5.cell 9 rfl
      clear ho hon hg
      go_wp2_with fail
      clear c9
      refine (putMeasure_any keys v5 _ _ base _ hg5.own hg5.size (by omega)).mono ?_
      rintro e w6 ⟨v6, rfl, ho, hon⟩
      have hg6 := hg5.step ho hon
      have c10 := hg6.cell 10 rfl
      clear ho hon hg5
      go_wp2_with fail
      clear c10
      refine (putMeasure_any bytes v6 _ _ base _ hg6.own hg6.size (by omega)).mono ?_
      rintro e w7 ⟨v7, rfl, ho, hon⟩
      have hg7 := hg6.step ho hon
      have c11 := hg7.cell 11 rfl
      clear ho hon hg6
      go_wp2_with fail
      clear c11
      refine (putMeasure_any charged v7 _ _ base _ hg7.own hg7.size (by omega)).mono ?_
      rintro e w8 ⟨v8, rfl, ho, hon⟩
      have hg8 := hg7.step ho hon
      have c12 := hg8.cell 12 rfl
      clear ho hon hg7
      go_wp2_with fail
      clear c12
      refine (put_any seq hseq 8 (by omega) (by omega) v8 _ _ base _ hg8.own hg8.size (by omega)).mono ?_
      rintro e w9 ⟨v9, rfl, ho, hon⟩
      have hg9 := hg8.step ho hon
      have c13 := hg9.cell 13 rfl
      clear ho hon hg8
      go_wp2_with fail
      clear c13
      refine (put_any buckets.length (by omega) 1 (by omega) (by omega) v9 _ _ base _ hg9.own hg9.size (by omega)).mono ?_
      rintro e wA ⟨vA, rfl, ho, hon⟩
      have hgA := hg9.step ho hon
      have c13 := hgA.cell 13 rfl
      clear ho hon hg9
      obtain ⟨XS, hXS⟩ : ∃ X, X = xs ++ putTok ⟨tb, tg, ts, tx⟩ ++ put ver 8 ++ text val ++ put page.length 1 ++ page.flatMap pairB ++ flag more ++ put (u64 keys) 8 ++ put (u64 bytes) 8 ++ put (u64 charged) 8 ++ put seq 8 ++ put buckets.length 1 := ⟨_, rfl⟩
      rw [← hXS] at hgA
      obtain ⟨LN, hLN⟩ : ∃ n, n = len + 17 + 8 + 2 + val.size + 1 + np + 1 + 8 + 8 + 8 + 8 + 1 := ⟨_, rfl⟩
      rw [← hLN] at hgA
      have HGA := Lib.hid hgA
      have HXS := Lib.hid (And.intro hXS hLN)
      have hLNle : LN ≤ 500000000 := by omega
      clear hgA hXS hLN
      go_wp2_with fail
      go_loopw [0, 8, 72] (fun s p i wr => ∃ k : Nat, k ≤ buckets.length ∧ i = .int .i64 (k : Int) ∧ Going w v base w.heap.size 49 #[.int .i64 code, .int .i64 tb, .int .u32 (tg : Int), .int .u32 (ts : Int), .int .u64 (tx : Int), .int .u64 (ver : Int), .string val, .slice pa page.length pc, .bool more, .int .i64 keys, .int .i64 bytes, .int .i64 charged, .int .u64 (seq : Int), .slice ba buckets.length bc] wr s (LN + k) (XS ++ (buckets.take k).flatMap intB)) (fun _ _ i _ => buckets.length - (intOf i).toNat)
      case atStart => exact ⟨0, Nat.zero_le _, rfl, HGA.out.eq rfl (by simp)⟩
      case round =>
        obtain ⟨k, hk, rfl, hg⟩ := hrel
        clear HGA c13
        by_cases hlt : k < buckets.length
        · obtain ⟨b, off, rfl, hlo, hblt, hc⟩ := HBX.out (show 0 < buckets.length by omega)
          have hbr : Below base w0 _ := HBW.out.trans (hg.onto.below HOWN.out hbsz)
          obtain ⟨z, hze⟩ : ∃ x, x = buckets[k] := ⟨_, rfl⟩
          have e0 := (hbr.cell (p := ⟨b, off + k, none⟩) (by show b < base; omega)).trans (show w0.cell? ⟨b, off + k, none⟩ = some (.int .i64 z) from by have := hc k hlt 0 (.int .i64 z) (by rw [← hze]; rfl); simpa using this)
          have HZE := Lib.hid hze
          have hw := wrap_u64 z
          have hzl := u64_lt z
          clear hze hc hbr
          go_wp2_with fail
          clear e0
          refine (put_any (u64 z) hzl 1 (by omega) (by omega) _ _ _ base _ hg.own hg.size (by omega)).mono ?_
          rintro e w6 ⟨v6, rfl, ho, hon⟩
          have HO2 := Lib.hid (hg.step ho hon)
          clear ho hon hg
          go_wp2_with fail
          go_roundw
          case rel =>
            refine ⟨k + 1, by omega, by go_num, HO2.out.eq (by omega) ?_⟩
            rw [flat_snoc _ _ _ hlt, ← HZE.out]; simp [intB]
          case measure => simp [intOf]; omega
        · have hkl : k = buckets.length := by omega
          subst hkl
          have hg := hg.eq rfl (by rw [List.take_of_length_le (Nat.le_refl _)])
          have HG := Lib.hid hg
          clear hg hlt hk
          go_wp2_with fail
          go_ret
          refine ⟨_, rfl, row_eq HG.out.own ?_ ?_, HG.out.onto⟩
          · rw [HTOLD.out, HXS.out.2]
            simp only [List.length_append, put_length, text_length, ints_len, flag, putTok, ← HNP.out]
            omega
          · rw [HTOLD.out, HXS.out.1]
            simp only [List.append_assoc]
end Go.Proofs.Ytbdbbnpkekcefaa.Cmd
namespace Go.Proofs.Ytbdbbnpkekcefaa.Cmd
open Go.Proofs.Ytbdbbnpkekcefaa.Mem Go.Proofs.Ytbdbbnpkekcefaa.Pack
open Go.ChangeShapes Go.WideShapes Go.ChangeAt Go.RowKit
set_option linter.unusedVariables false
set_option linter.unusedSimpArgs false

def EncIs (r : Rs) (w : World) (e : Ending) (w' : World) : Prop := ∃ v, e = .returned v ∧ w'.ownsRow w.heap.size 5 1 v (encOf r).length (cellsOf (encOf r)) ∧ Below w.heap.size w w'
set_option maxRecDepth 100000 in
set_option maxHeartbeats 4000000 in
theorem enc_any (r : Rs) (hr : RsSo r) (pv bv : Value) (lo : Nat) (w : World) (hp : ShowsFrom pcells 2 lo w pv r.page) (hb : ShowsFrom icells 1 lo w bv r.buckets) :
    Calls Try.prog 15 #[rsv r pv bv] w fun e w' => EncIs r w e w' := by
  have hlt := u64_lt r.code
  have hw0 := wrap_u64 r.code
  have HT := Lib.hid (fun v xs w1 hbw hown hl => putTold_any r hr pv bv w lo hp hb v 1 xs w.heap.size w1 rfl hbw hown hl)
  have hg0 := Going.start (scells r pv bv) 49 (own_none w) (Nat.le_refl _)
  clear hp hb
  unfold rsv at HT ⊢
  unfold scells at HT hg0 ⊢
  go_enter Try.func15, Try.ntmps15
  go_wp2_with fail
  refine (put_any (u64 r.code) hlt 1 (by omega) (by omega) _ _ _ _ _ hg0.own hg0.size (by omega)).mono ?_
  rintro e w1 ⟨v1, rfl, ho, hon⟩
  have hg1 := hg0.step ho hon
  clear ho hon hg0
  by_cases hc : r.code = 0
  · have hc1 : (r.code != 0) = false := by rw [hc]; rfl
    have c0 : w1.cell? ⟨w.heap.size, 0, none⟩ = some (.int .i64 r.code) := hg1.cell 0 rfl
    have c1 : w1.cell? ⟨w.heap.size, 1, none⟩ = some (.int .i64 r.tok.b) := hg1.cell 1 rfl
    have c2 : w1.cell? ⟨w.heap.size, 2, none⟩ = some (.int .u32 (r.tok.g : Int)) := hg1.cell 2 rfl
    have c3 : w1.cell? ⟨w.heap.size, 3, none⟩ = some (.int .u32 (r.tok.s : Int)) := hg1.cell 3 rfl
    have c4 : w1.cell? ⟨w.heap.size, 4, none⟩ = some (.int .u64 (r.tok.x : Int)) := hg1.cell 4 rfl
    have c5 : w1.cell? ⟨w.heap.size, 5, none⟩ = some (.int .u64 (r.ver : Int)) := hg1.cell 5 rfl
    have c6 : w1.cell? ⟨w.heap.size, 6, none⟩ = some (.string r.val) := hg1.cell 6 rfl
    have c7 : w1.cell? ⟨w.heap.size, 7, none⟩ = some (pv) := hg1.cell 7 rfl
    have c8 : w1.cell? ⟨w.heap.size, 8, none⟩ = some (.bool r.more) := hg1.cell 8 rfl
    have c9 : w1.cell? ⟨w.heap.size, 9, none⟩ = some (.int .i64 r.keys) := hg1.cell 9 rfl
    have c10 : w1.cell? ⟨w.heap.size, 10, none⟩ = some (.int .i64 r.bytes) := hg1.cell 10 rfl
    have c11 : w1.cell? ⟨w.heap.size, 11, none⟩ = some (.int .i64 r.charged) := hg1.cell 11 rfl
    have c12 : w1.cell? ⟨w.heap.size, 12, none⟩ = some (.int .u64 (r.seq : Int)) := hg1.cell 12 rfl
    have c13 : w1.cell? ⟨w.heap.size, 13, none⟩ = some (bv) := hg1.cell 13 rfl
    have HB := Lib.hid (hg1.onto.below (own_none w) (Nat.le_refl _))
    have HE := Lib.hid (show encOf r = put (u64 r.code) 1 ++ told r by unfold encOf; rw [if_pos hc])
    have HG := Lib.hid hg1
    clear hg1 hc
    go_wp2_with fail
    clear c0 c1 c2 c3 c4 c5 c6 c7 c8 c9 c10 c11 c12 c13
    refine (HT.out v1 _ w1 HB.out HG.out.own (by omega)).mono ?_
    rintro e w2 ⟨v2, rfl, ho, hon⟩
    have HF := Lib.hid (And.intro ho (hon.below HG.out.own HG.out.size))
    clear ho hon
    go_wp2_with fail
    go_ret
    refine ⟨_, rfl, row_eq HF.out.1 ?_ ?_, HB.out.trans HF.out.2⟩
    · rw [HE.out, List.length_append, put_length]; try omega
    · rw [HE.out]; rfl
  · have hc1 : (r.code != 0) = true := bne_iff_ne.2 hc
    have c0 := hg1.cell 0 rfl
    have HB := Lib.hid (hg1.onto.below (own_none w) (Nat.le_refl _))
    have HE := Lib.hid (show encOf r = put (u64 r.code) 1 by unfold encOf; rw [if_neg hc, List.append_nil])
    have HG := Lib.hid hg1
    clear hg1 hc
    go_wp2_with fail
    go_ret
    refine ⟨_, rfl, row_eq HG.out.own ?_ ?_, HB.out⟩
    · rw [HE.out, put_length]; try omega
    · rw [HE.out]; rfl
def FewIs (q : Rq) (w : World) (e : Ending) (w' : World) : Prop := ∃ r : Bool, e = .returned (.bool r) ∧ (r = true → (∀ o ∈ q.ops, o.key.size ≤ 100 ∧ o.val.size ≤ 1500) ∧ q.ops.length ≤ 20 ∧ q.after.size ≤ 100) ∧ Below w.heap.size w w'
set_option maxRecDepth 100000 in
set_option maxHeartbeats 4000000 in
theorem few_any (q : Rq) (sv : Value) (w : World) (hops : OpsAt w sv q.ops) (hl : q.ops.length ≤ 9223372036854775807) : Calls Try.prog 12 #[rv q sv] w fun e w' => FewIs q w e w' := by
  obtain ⟨tag, admin, bucket, ⟨qk, qb, qg⟩, ⟨tb, tg, ts, tx⟩, ops, after, first, count, rights, serial⟩ := q
  have hl : ops.length ≤ 9223372036854775807 := hl
  have hops : OpsAt w sv ops := hops
  obtain ⟨a, cap, rfl, hx⟩ := hops
  have HX := Lib.hid hx
  simp only [rv, rcells]
  obtain ⟨cs, hcs⟩ : ∃ cs : Array Value, cs = #[.int .i64 tag, .int .u64 (admin : Int), .int .i64 bucket, .int .i64 qk, .int .i64 qb, .int .i64 qg, .int .i64 tb, .int .u32 (tg : Int), .int .u32 (ts : Int), .int .u64 (tx : Int), .slice a ops.length cap, .string after, .bool first, .int .i64 count, .int .i64 rights, .int .u32 (serial : Int)] := ⟨_, rfl⟩
  have hbx : Blk (w.alloc (.cells cs 32)) w.heap.size 32 cs := Blk.new _ _ _
  have hbw : Below w.heap.size w (w.alloc (.cells cs 32)) := (Below.refl _ _).alloc (Nat.le_refl _) _
  have h10 : cs[10]? = some (.slice a ops.length cap) := by rw [hcs]; rfl
  have h11 : cs[11]? = some (.string after) := by rw [hcs]; rfl
  have H0 := Lib.hid (And.intro hbx (And.intro hbw (And.intro h10 h11)))
  rw [hcs] at H0
  clear hx hbx hbw h10 h11 hcs
  go_enter Try.func12, Try.ntmps12
  go_wp2_with fail
  go_loopw [3] (fun i wr => ∃ k : Nat, k ≤ ops.length ∧ i = .int .i64 (k : Int) ∧ (∀ o ∈ ops.take k, o.key.size ≤ 100 ∧ o.val.size ≤ 1500) ∧ wr.cell? ⟨w.heap.size, 10, none⟩ = some (.slice a ops.length cap) ∧ wr.cell? ⟨w.heap.size, 11, none⟩ = some (.string after) ∧ Below w.heap.size w wr) (fun i _ => ops.length - (intOf i).toNat)
  case atStart => exact ⟨0, Nat.zero_le _, rfl, fun o ho => absurd ho List.not_mem_nil, (H0.out.1.cell 10).trans rfl, (H0.out.1.cell 11).trans rfl, H0.out.2.1⟩
  case round =>
    obtain ⟨k, hk, rfl, hall, x10, x11, hbr⟩ := hrel
    clear H0
    have HBR := Lib.hid hbr
    have HALL := Lib.hid hall
    by_cases hlt : k < ops.length
    · obtain ⟨b, off, rfl, hblt, hc⟩ := HX.out (by omega)
      obtain ⟨o, hoe⟩ : ∃ o, o = ops[k] := ⟨_, rfl⟩
      have hcr : ∀ i (h : i < ops.length) j u, (ocells ops[i])[j]? = some u → wr.cell? ⟨b, off + i * 5 + j, none⟩ = some u := fun i hi j u hu => (hbr.cell (p := ⟨b, off + i * 5 + j, none⟩) hblt).trans (hc i hi j u hu)
      obtain ⟨e0, e1, e2, e3, e4⟩ := OpsAt.cells hcr hlt hoe
      have HOE := Lib.hid hoe
      obtain ⟨n, hn⟩ : ∃ n, n = o.key.size := ⟨_, rfl⟩
      obtain ⟨m, hm⟩ : ∃ m, m = o.val.size := ⟨_, rfl⟩
      have HNM := Lib.hid (And.intro hn hm)
      have hn1 : (o.key.size : Int) = (n : Int) := by rw [hn]
      have hm1 : (o.val.size : Int) = (m : Int) := by rw [hm]
      clear hoe hc hcr hbr hall hn hm e0 e3 e4
      by_cases a1 : 100 < n
      · have d1 : decide ((100 : Int) < (n : Int)) = true := decide_eq_true (by omega)
        go_wp2_with fail
        go_ret
        exact ⟨false, rfl, (fun h => by cases h), HBR.out⟩
      have d1 : decide ((100 : Int) < (n : Int)) = false := decide_eq_false (by omega)
      by_cases a2 : 1500 < m
      · have d2 : decide ((1500 : Int) < (m : Int)) = true := decide_eq_true (by omega)
        go_wp2_with fail
        go_ret
        exact ⟨false, rfl, (fun h => by cases h), HBR.out⟩
      have d2 : decide ((1500 : Int) < (m : Int)) = false := decide_eq_false (by omega)
      have HY := Lib.hid (show o.key.size ≤ 100 ∧ o.val.size ≤ 1500 by have := HNM.out; omega)
      have HXX := Lib.hid (And.intro x10 x11)
      go_wp2_with fail
      go_roundw
      case rel =>
        refine ⟨k + 1, by omega, by go_num, fun x hx => ?_, HXX.out.1, HXX.out.2, HBR.out⟩
        rw [List.take_succ_eq_append_getElem hlt] at hx
        rcases List.mem_append.1 hx with h | h
        · exact HALL.out x h
        · rw [List.mem_singleton.1 h, ← HOE.out]; exact HY.out
      case measure => simp [intOf]; omega
    · have hkl : k = ops.length := by omega
      subst hkl
      have HA := Lib.hid (show ∀ o ∈ ops, o.key.size ≤ 100 ∧ o.val.size ≤ 1500 by rw [List.take_of_length_le (Nat.le_refl _)] at hall; exact hall)
      obtain ⟨n, hn⟩ : ∃ n, n = after.size := ⟨_, rfl⟩
      have hn1 : (after.size : Int) = (n : Int) := by rw [hn]
      have HN := Lib.hid hn
      clear hall hbr hlt hk hn
      by_cases a1 : ops.length ≤ 20
      rotate_left
      · have d1 : decide ((ops.length : Int) ≤ 20) = false := decide_eq_false (by omega)
        go_wp2_with fail
        go_ret
        exact ⟨false, rfl, (fun h => by cases h), HBR.out⟩
      have d1 : decide ((ops.length : Int) ≤ 20) = true := decide_eq_true (by omega)
      by_cases a2 : n ≤ 100
      rotate_left
      · have d2 : decide ((n : Int) ≤ 100) = false := decide_eq_false (by omega)
        go_wp2_with fail
        go_ret
        exact ⟨false, rfl, (fun h => by cases h), HBR.out⟩
      have d2 : decide ((n : Int) ≤ 100) = true := decide_eq_true (by omega)
      have HY := Lib.hid (And.intro a1 (show after.size ≤ 100 by rw [← HN.out]; exact a2))
      go_wp2_with fail
      go_ret
      exact ⟨true, rfl, fun _ => ⟨HA.out, HY.out⟩, HBR.out⟩
end Go.Proofs.Ytbdbbnpkekcefaa.Cmd
