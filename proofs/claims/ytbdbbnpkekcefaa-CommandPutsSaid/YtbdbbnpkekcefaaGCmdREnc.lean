/- In one text: The document's own token and bit. The bytes that the document's Encode puts: what its walk needs. The document's Encode of a response of another code than 0. The document's Encode of a response of code 0. -/
import Derived.Test.YtbdbbnpkekcefaaCmdMem
import Derived.Test.YtbdbbnpkekcefaaGCmdEnc
namespace Go.Proofs.Ytbdbbnpkekcefaa.Cmd
open Go.Proofs.Ytbdbbnpkekcefaa.Mem Go.Proofs.Ytbdbbnpkekcefaa.Pack
open Go.ChangeShapes Go.WideShapes Go.ChangeAt Go.RowKit
set_option linter.unusedVariables false
set_option linter.unusedSimpArgs false

theorem bit_any (b : Bool) (w : World) : Calls Try.prog 38 #[.bool b] w fun e w' => e = .returned (.int .u8 (if b then 1 else 0)) ∧ w = w' := by
  cases b
  · go_enter Try.func38, Try.ntmps38
    go_wp2
    go_ret
    exact ⟨rfl, rfl⟩
  · go_enter Try.func38, Try.ntmps38
    go_wp2
    go_ret
    exact ⟨rfl, rfl⟩
set_option maxRecDepth 100000 in
set_option maxHeartbeats 2000000 in
theorem rtoken_any (t : Tok) (ht : TokSo t) (v : Value) (len : Nat) (xs : List Int) (base : Nat) (w : World)
    (hown : w.ownsRow base 5 1 v len (cellsOf xs)) (hb : base ≤ w.heap.size) (hl : len ≤ 1000000000) :
    Calls Try.prog 35 #[v, tv t] w fun e w' => ∃ v', e = .returned v' ∧ w'.ownsRow base 5 1 v' (len + 17) (cellsOf (xs ++ putTok t)) ∧ Onto w w' v v' := by
  obtain ⟨b, g, sr, x⟩ := t
  obtain ⟨hb', hg, hs, hx⟩ := ht
  simp only at hb' hg hs hx
  have hw := wrap_u64 b
  have hlt := u64_lt b
  have hw2 := wrap_u64_nat (n := g) (by omega)
  have hw3 := wrap_u64_nat (n := sr) (by omega)
  have hg0 := Going.start #[.int .i64 b, .int .u32 (g : Int), .int .u32 (sr : Int), .int .u64 (x : Int)] 29 hown hb
  have HOWN := Lib.hid hown
  clear hown
  unfold tv
  go_enter Try.func35, Try.ntmps35
  go_wp2_with fail
  refine (refPut_any (u64 b) hlt 1 (by omega) v _ xs base _ hg0.own hg0.size (by omega)).mono ?_
  rintro e w1 ⟨v1, rfl, ho, hon⟩
  have hg1 := hg0.step ho hon
  have c1 := hg1.cell 1 rfl
  clear ho hon hg0
  go_wp2_with fail
  refine (refPut_any g (by omega) 4 (by omega) v1 _ _ base _ hg1.own hg1.size (by omega)).mono ?_
  rintro e w2 ⟨v2, rfl, ho, hon⟩
  have hg2 := hg1.step ho hon
  have c2 := hg2.cell 2 rfl
  clear ho hon hg1 c1
  go_wp2_with fail
  refine (refPut_any sr (by omega) 4 (by omega) v2 _ _ base _ hg2.own hg2.size (by omega)).mono ?_
  rintro e w3 ⟨v3, rfl, ho, hon⟩
  have hg3 := hg2.step ho hon
  have c3 := hg3.cell 3 rfl
  clear ho hon hg2 c2
  go_wp2_with fail
  refine (refPut_any x (by omega) 8 (by omega) v3 _ _ base _ hg3.own hg3.size (by omega)).mono ?_
  rintro e w4 ⟨v4, rfl, ho, hon⟩
  have hg4 := hg3.step ho hon
  clear ho hon hg3 c3
  go_wp2_with fail
  go_ret
  exact ⟨_, rfl, row_eq hg4.own (by omega) (by simp [putTok]), hg4.onto⟩
end Go.Proofs.Ytbdbbnpkekcefaa.Cmd
namespace Go.Proofs.Ytbdbbnpkekcefaa.Cmd
open Go.Proofs.Ytbdbbnpkekcefaa.Mem Go.Proofs.Ytbdbbnpkekcefaa.Pack
open Go.ChangeShapes Go.WideShapes Go.ChangeAt Go.RowKit
set_option linter.unusedVariables false
set_option linter.unusedSimpArgs false

theorem made_one (w : World) (x : Int) : (w.alloc (.cells #[.int .u8 x] 5)).ownsRow w.heap.size 5 1 (.slice (some ⟨w.heap.size, 0, none⟩) 1 1) 1 (cellsOf [x]) :=
  ⟨by simp [cellsOf], .inr ⟨w.heap.size, 1, #[.int .u8 x], rfl, Nat.le_refl _, heap_alloc_new w _, Nat.le_refl _, by unfold maxLen; omega, rfl, by simp [cellsOf]⟩⟩
/- A row that is appended to, beside a block of another type that is read; what was below the base stays. -/
structure RGo (w0 : World) (base B : Nat) (t : TypeId) (cs : Array Value) (w : World) (v : Value) (len : Nat) (xs : List Int) : Prop where
  own : w.ownsRow base 5 1 v len (cellsOf xs)
  box : Blk w B t cs
  size : base ≤ w.heap.size
  ne : v.ownBlock ≠ some B
  below : Below base w0 w
theorem own_ne {w : World} {base B len : Nat} {t : TypeId} {cs : Array Value} {v : Value} {xs : List Int} (ht : t ≠ 5) (ho : w.ownsRow base 5 1 v len (cellsOf xs)) (hb : Blk w B t cs) : v.ownBlock ≠ some B := by
  rcases ho.2 with ⟨rfl, _⟩ | ⟨g, cap, cur, rfl, hg, hh, _⟩
  · intro h; cases h
  · intro h
    have hgB : g = B := by injection h
    subst hgB
    exact (hb.ne_ (show Blk w g 5 cur from hh) ht) rfl
section
variable {w0 w w' : World} {base B len len' : Nat} {t : TypeId} {cs : Array Value} {v v' : Value} {xs ys : List Int}
theorem RGo.grown (ht : t ≠ 5) (h : RGo w0 base B t cs w v len xs) (ho : w'.ownsRow base 5 1 v' len' (cellsOf ys)) (hg : w.grownBy w' v.ownBlock) : RGo w0 base B t cs w' v' len' ys :=
  have hbx := h.box.but (But.of_grown hg) (fun e => h.ne e.symm)
  ⟨ho, hbx, Nat.le_trans h.size hg.size, own_ne ht ho hbx, h.below.grown hg h.size (fun k hk => (h.own.lt k hk).1)⟩
theorem RGo.step (ht : t ≠ 5) (h : RGo w0 base B t cs w v len xs) (ho : w'.ownsRow base 5 1 v' len' (cellsOf ys)) (hon : Onto w w' v v') : RGo w0 base B t cs w' v' len' ys := h.grown ht ho hon.grown
theorem RGo.cell (h : RGo w0 base B t cs w v len xs) (i : Nat) {u : Value} (hu : cs[i]? = some u) : w.cell? ⟨B, i, none⟩ = some u := (h.box.cell i).trans hu
theorem RGo.eq (h : RGo w0 base B t cs w v len xs) (hl : len = len') (hx : xs = ys) : RGo w0 base B t cs w v len' ys := by subst hl hx; exact h
theorem RGo.alloc (h : RGo w0 base B t cs w v len xs) (o : Obj) : RGo w0 base B t cs (w.alloc o) v len xs :=
  ⟨ownsRow_alloc h.own o, h.box.but ((But.refl (fun _ => False) w).alloc o) (fun e => e), by have := h.size; simp; omega, h.ne, h.below.trans ((Below.refl base w).alloc h.size o)⟩
end
theorem rtext_grown (s : ByteArray) (hs : s.size ≤ 65535) (v : Value) (len : Nat) (xs : List Int) (base : Nat) (w : World)
    (hown : w.ownsRow base 5 1 v len (cellsOf xs)) (hb : base ≤ w.heap.size) (hl : len ≤ 1073741824) :
    Calls Try.prog 37 #[v, .string s] w fun e w' => ∃ v', e = .returned v' ∧ w'.ownsRow base 5 1 v' (len + 2 + s.size) (cellsOf (xs ++ text s)) ∧ w.grownBy w' v.ownBlock := by
  refine (refText_grown s s (by rw [cut, if_neg (by omega)]) v len xs base w hown hb hl (by omega)).mono ?_
  rintro e w' ⟨v', rfl, h1, h2⟩
  exact ⟨v', rfl, by unfold text; rw [← List.append_assoc]; exact h1, h2⟩
theorem wrap_u8 (z : Int) : IntKind.u8.wrap z = z % 256 := by simp [IntKind.wrap, IntKind.signed, IntKind.bits]
/- The document's response: its value. -/
def rrcells (r : Rs) (pv sv bv : Value) : Array Value := #[.int .i64 r.code, .int .i64 r.tok.b, .int .u32 (r.tok.g : Int), .int .u32 (r.tok.s : Int), .int .u64 (r.tok.x : Int), .int .u64 (r.ver : Int), .string r.val, pv, .bool r.more, sv, bv]
def rrv (r : Rs) (pv sv bv : Value) : Value := .agg (rrcells r pv sv bv)
def ucells (n : Nat) : List Value := [.int .u64 (n : Int)]
def statOf (r : Rs) : List Nat := [u64 r.keys, u64 r.bytes, u64 r.charged, r.seq]
end Go.Proofs.Ytbdbbnpkekcefaa.Cmd
namespace Go.Proofs.Ytbdbbnpkekcefaa.Cmd
open Go.Proofs.Ytbdbbnpkekcefaa.Mem Go.Proofs.Ytbdbbnpkekcefaa.Pack
open Go.ChangeShapes Go.WideShapes Go.ChangeAt Go.RowKit
set_option linter.unusedVariables false
set_option linter.unusedSimpArgs false

set_option maxRecDepth 100000 in
set_option maxHeartbeats 4000000 in
theorem renc_no (r : Rs) (hc : r.code ≠ 0) (pv sv bv : Value) (w : World) :
    Calls Try.prog 16 #[rrv r pv sv bv] w fun e w' => EncIs r w e w' := by
  have hc1 : (r.code != 0) = true := bne_iff_ne.2 hc
  have hw := wrap_u8 r.code
  have HE := Lib.hid (show encOf r = [r.code % 256] by unfold encOf; rw [if_neg hc, List.append_nil, u64_byte])
  have HM := Lib.hid (made_one (w.alloc (.cells (rrcells r pv sv bv) 63)) (r.code % 256))
  clear hc
  unfold rrv
  unfold rrcells at HM ⊢
  go_enter Try.func16, Try.ntmps16
  go_wp2_with fail
  go_ret
  refine ⟨_, rfl, ?_, ?_⟩
  · rw [HE.out]
    have h := HM.out
    exact ⟨h.1, by
      rcases h.2 with ⟨h1, _⟩ | ⟨g, cap, cur, h1, h2, h3⟩
      · cases h1
      · exact .inr ⟨g, cap, cur, by simpa using h1, by simp at h2; omega, h3⟩⟩
  · exact ((Below.refl _ w).alloc (Nat.le_refl _) _).alloc (by simp) _
end Go.Proofs.Ytbdbbnpkekcefaa.Cmd
namespace Go.Proofs.Ytbdbbnpkekcefaa.Cmd
open Go.Proofs.Ytbdbbnpkekcefaa.Mem Go.Proofs.Ytbdbbnpkekcefaa.Pack
open Go.ChangeShapes Go.WideShapes Go.ChangeAt Go.RowKit
set_option linter.unusedVariables false
set_option linter.unusedSimpArgs false

theorem made_base {w : World} (x : Int) {base : Nat} (hb : base ≤ w.heap.size) : (w.alloc (.cells #[.int .u8 x] 5)).ownsRow base 5 1 (.slice (some ⟨w.heap.size, 0, none⟩) 1 1) 1 (cellsOf [x]) :=
  ⟨by simp [cellsOf], .inr ⟨w.heap.size, 1, #[.int .u8 x], rfl, hb, heap_alloc_new w _, Nat.le_refl _, by unfold maxLen; omega, rfl, by simp [cellsOf]⟩⟩
theorem rgo_start (W : World) (t : TypeId) (RC : Array Value) (x : Int) : RGo W W.heap.size W.heap.size t RC ((W.alloc (.cells RC t)).alloc (.cells #[.int .u8 x] 5)) (.slice (some ⟨W.heap.size + 1, 0, none⟩) 1 1) 1 [x] :=
  ⟨by have h := made_base (w := W.alloc (.cells RC t)) x (base := W.heap.size) (by simp); simpa using h, (Blk.new W t RC).but ((But.refl (fun _ => False) _).alloc _) (fun e => e), by simp; omega, by intro h; simp [Value.ownBlock] at h, ((Below.refl _ W).alloc (Nat.le_refl _) _).alloc (by simp) _⟩
theorem RGo.app {w0 w w2 : World} {base B len n : Nat} {t : TypeId} {cs : Array Value} {v v2 : Value} {xs : List Int} {x : Int} (ht : t ≠ 5) (h : RGo w0 base B t cs w v len xs) (ho : w2.ownsRow base 5 1 v2 n (cellsOf xs ++ [.int .u8 x])) (hon : Onto (w.alloc (.cells #[.int .u8 x] 5)) w2 v v2) : RGo w0 base B t cs w2 v2 n (xs ++ [x]) :=
  (h.alloc _).step ht (by rw [cellsOf_append]; exact ho) hon
theorem bit_let (b : Bool) (z : Int) (hz : (if b then (1 : Int) else 0) = z) (w : World) : Calls Try.prog 38 #[.bool b] w fun e w' => e = .returned (.int .u8 z) ∧ w = w' := by
  subst hz
  exact bit_any b w
theorem stat_len (l : List Nat) : (l.flatMap (fun n => put n 8)).length = 8 * l.length := by
  induction l with
  | nil => rfl
  | cons z l ih => rw [List.flatMap_cons, List.length_append, ih, List.length_cons, put_length]; omega
set_option maxRecDepth 100000 in
set_option maxHeartbeats 8000000 in
theorem renc_yes (r : Rs) (hr : RsSo r) (hc0 : r.code = 0) (pv sv bv : Value) (lo : Nat) (W : World) (hp : ShowsFrom pcells 2 lo W pv r.page) (hs : ShowsFrom ucells 1 lo W sv (statOf r)) (hb : ShowsFrom icells 1 lo W bv r.buckets) :
    Calls Try.prog 16 #[rrv r pv sv bv] W fun e w' => EncIs r W e w' := by
  obtain ⟨i0, hi0, hz0, hz1, hz2⟩ := info_parts u8_info
  obtain ⟨code, ⟨tb, tg, ts, tx⟩, ver, val, page, more, keys, bytes, charged, seq, buckets⟩ := r
  obtain ⟨hcode, htok, hver, hval, hpage, hpages, hseq, hbuckets⟩ := hr
  simp only at htok hver hval hpage hpages hseq hbuckets
  replace hc0 : code = 0 := hc0
  have hc1 : (code != 0) = false := by rw [hc0]; rfl
  have hw := wrap_u8 code
  have ht : 63 ≠ 5 := by decide
  obtain ⟨pa, pc, hpv, hpx⟩ := hp
  replace hpv : pv = .slice pa page.length pc := hpv
  subst hpv
  obtain ⟨ba, bc, hbv, hbx⟩ := hb
  replace hbv : bv = .slice ba buckets.length bc := hbv
  subst hbv
  obtain ⟨st, hst⟩ : ∃ st, st = statOf ⟨code, ⟨tb, tg, ts, tx⟩, ver, val, page, more, keys, bytes, charged, seq, buckets⟩ := ⟨_, rfl⟩
  rw [← hst] at hs
  have hst4 : st.length = 4 := by rw [hst]; rfl
  obtain ⟨sa, sc, hsv, hsx⟩ := hs
  replace hsv : sv = .slice sa 4 sc := by rw [← hst4]; exact hsv
  subst hsv
  have hstl : ∀ n ∈ st, n < 18446744073709551616 := by
    intro n hn
    rw [hst] at hn
    simp only [statOf, List.mem_cons, List.not_mem_nil, or_false] at hn
    rcases hn with rfl | rfl | rfl | rfl
    · exact u64_lt _
    · exact u64_lt _
    · exact u64_lt _
    · exact hseq
  have hg0 := rgo_start W 63 #[.int .i64 code, .int .i64 tb, .int .u32 (tg : Int), .int .u32 (ts : Int), .int .u64 (tx : Int), .int .u64 (ver : Int), .string val, .slice pa page.length pc, .bool more, .slice sa 4 sc, .slice ba buckets.length bc] (code % 256)
  have hn1 : IntKind.u8.wrap (page.length : Int) = ((page.length % 256 : Nat) : Int) := by rw [wrap_u8]; omega
  have hn2 : IntKind.u8.wrap (buckets.length : Int) = ((buckets.length % 256 : Nat) : Int) := by rw [wrap_u8]; omega
  have hle0 := page_take_le hpage page.length
  rw [List.take_of_length_le (Nat.le_refl _)] at hle0
  have HENC := Lib.hid (show encOf ⟨code, ⟨tb, tg, ts, tx⟩, ver, val, page, more, keys, bytes, charged, seq, buckets⟩ = [code % 256] ++ (putTok ⟨tb, tg, ts, tx⟩ ++ (put ver 8 ++ (text val ++ (put page.length 1 ++ (page.flatMap pairB ++ (flag more ++ (st.flatMap (fun n => put n 8) ++ (put buckets.length 1 ++ buckets.flatMap intB)))))))) by
    show put (u64 code) 1 ++ (if code = 0 then _ else []) = _
    rw [if_pos hc0, u64_byte, hst]
    simp [told, statOf])
  obtain ⟨np, hnp⟩ : ∃ n, n = (page.flatMap pairB).length := ⟨_, rfl⟩
  rw [← hnp] at hle0
  have HNP := Lib.hid hnp
  have HPX := Lib.hid hpx
  have HBX := Lib.hid hbx
  have HSX := Lib.hid hsx
  have HPG := Lib.hid hpage
  have HSL := Lib.hid (And.intro hst4 hstl)
  have HHT := Lib.hid ht
  have HG0 := Lib.hid hg0
  have d0 := hg0.cell 0 rfl
  have d1 := hg0.cell 1 rfl
  have d2 := hg0.cell 2 rfl
  have d3 := hg0.cell 3 rfl
  have d4 := hg0.cell 4 rfl
  clear hpx hbx hsx hpage hcode hnp hst hst4 hstl ht hg0 hc0
  unfold rrv rrcells
  go_enter Try.func16, Try.ntmps16
  go_wp2_with fail
  have hg0 := HG0.out
  clear d0 d1 d2 d3 d4
  refine (rtoken_any ⟨tb, tg, ts, tx⟩ htok _ _ _ W.heap.size _ hg0.own hg0.size (by omega)).mono ?_
  rintro e w1 ⟨v1, rfl, ho, hon⟩
  have hg1 := hg0.step HHT.out ho hon
  have c5 := hg1.cell 5 rfl
  clear ho hon hg0
  go_wp2_with fail
  clear c5
  refine (refPut_any ver hver 8 (by omega) v1 _ _ W.heap.size _ hg1.own hg1.size (by omega)).mono ?_
  rintro e w2 ⟨v2, rfl, ho, hon⟩
  have hg2 := hg1.step HHT.out ho hon
  have c6 := hg2.cell 6 rfl
  clear ho hon hg1
  go_wp2_with fail
  clear c6
  refine (rtext_grown val hval v2 _ _ W.heap.size _ hg2.own hg2.size (by omega)).mono ?_
  rintro e w3 ⟨v3, rfl, ho, hon⟩
  have hg3 := hg2.grown HHT.out ho hon
  have c7 := hg3.cell 7 rfl
  clear ho hon hg2
  go_wp2_with (at_builtin; refine wpList_append_onto rfl (.tmp 28) (.tmp 33) _ rfl W.heap.size 5 i0 _ 1 1 Try.underlying22 hi0 hz0 hz1 hz2 rfl (by omega) v3 _ (cellsOf _) rfl (ownsRow_alloc hg3.own _) _ 1 _ rfl (sees_one _ _ _ _) (by simp [Value.oneCell']) (by simp only [maxLen]; omega) (by omega) (by have := hg3.size; simp; omega) ?_; intro v2 w2 ho2 hon2)
  have hg4 := hg3.app HHT.out ho2 hon2
  have c7 := hg4.cell 7 rfl
  have HG4 := Lib.hid hg4
  clear ho2 hon2 hg3 hg4
  go_wp2_with fail
  go_loopw [3, 4] (fun s i wr => ∃ k : Nat, k ≤ page.length ∧ i = .int .i64 (k : Int) ∧ RGo W W.heap.size W.heap.size 63 #[.int .i64 code, .int .i64 tb, .int .u32 (tg : Int), .int .u32 (ts : Int), .int .u64 (tx : Int), .int .u64 (ver : Int), .string val, .slice pa page.length pc, .bool more, .slice sa 4 sc, .slice ba buckets.length bc] wr s (1 + 17 + 8 + 2 + val.size + 1 + ((page.take k).flatMap pairB).length) ([code % 256] ++ putTok ⟨tb, tg, ts, tx⟩ ++ put ver 8 ++ text val ++ put page.length 1 ++ (page.take k).flatMap pairB)) (fun _ i _ => page.length - (intOf i).toNat)
  case atStart => exact ⟨0, Nat.zero_le _, rfl, HG4.out.eq (by simp; try omega) (by simp [put])⟩
  case round =>
    obtain ⟨k, hk, rfl, hg⟩ := hrel
    have hle := page_take_le HPG.out k
    have hle' : ((page.take k).flatMap pairB).length ≤ 131074000 := Nat.le_trans hle (by omega)
    obtain ⟨m, hm⟩ : ∃ m, m = ((page.take k).flatMap pairB).length := ⟨_, rfl⟩
    rw [← hm] at hg hle'
    have HM := Lib.hid hm
    clear hm hle HG4 c7
    by_cases hlt : k < page.length
    · obtain ⟨b, off, rfl, hlo, hblt, hc⟩ := HPX.out (show 0 < page.length by omega)
      obtain ⟨⟨x1, x2⟩, hxe⟩ : ∃ x, x = page[k] := ⟨_, rfl⟩
      have hsz := HPG.out (x1, x2) (hxe ▸ List.getElem_mem hlt)
      have E1 := Lib.hid (show ∀ w', Below W.heap.size W w' → w'.cell? ⟨b, off + k * 2 + 1, none⟩ = some (.string x2) from fun w' h => (h.cell (p := ⟨b, off + k * 2 + 1, none⟩) (by show b < W.heap.size; omega)).trans (hc k hlt 1 _ (by rw [← hxe]; rfl)))
      have e0 := (hg.below.cell (p := ⟨b, off + k * 2, none⟩) (by show b < W.heap.size; omega)).trans (hc k hlt 0 (.string x1) (by rw [← hxe]; rfl))
      have HXE := Lib.hid hxe
      obtain ⟨hs1, hs2⟩ := hsz
      simp only at hs1 hs2
      have c7 := hg.cell 7 rfl
      clear hxe hc
      go_wp2_with fail
      clear e0 c7
      refine (rtext_grown x1 hs1 _ _ _ W.heap.size _ hg.own hg.size (by omega)).mono ?_
      rintro e w5 ⟨v5, rfl, ho, hon⟩
      have hg5 := hg.grown HHT.out ho hon
      have e1 := E1.out _ hg5.below
      have c7 := hg5.cell 7 rfl
      clear ho hon hg
      go_wp2_with fail
      clear e1 c7
      refine (rtext_grown x2 hs2 v5 _ _ W.heap.size _ hg5.own hg5.size (by omega)).mono ?_
      rintro e w6 ⟨v6, rfl, ho, hon⟩
      have HO2 := Lib.hid (hg5.grown HHT.out ho hon)
      clear ho hon hg5
      go_wp2_with fail
      go_roundw
      case rel =>
        refine ⟨k + 1, by omega, by go_num, HO2.out.eq ?_ ?_⟩
        · rw [flat_snoc _ _ _ hlt, List.length_append, ← HM.out, ← HXE.out]; unfold pairB; rw [List.length_append, text_length, text_length]; simp only; omega
        · rw [flat_snoc _ _ _ hlt, ← HXE.out]; simp [pairB]
      case measure => simp [intOf]; omega
    · have hkl : k = page.length := by omega
      subst hkl
      have hm2 : m = np := by rw [HM.out, HNP.out, List.take_of_length_le (Nat.le_refl _)]
      have hg := hg.eq (by rw [hm2]) (by rw [List.take_of_length_le (Nat.le_refl _)])
      have c7 := hg.cell 7 rfl
      have c8 := hg.cell 8 rfl
      clear hlt hk hm2 hle'
      go_wp2_with fail
      clear c7 c8
      obtain ⟨bt, hbt⟩ : ∃ z : Int, (if more then (1 : Int) else 0) = z := ⟨_, rfl⟩
      have HBT := Lib.hid hbt
      clear hbt
      refine (bit_let more bt HBT.out _).mono ?_
      rintro e w5 ⟨rfl, rfl⟩
      go_wp2_with (at_builtin; refine wpList_append_onto rfl (.tmp 58) (.tmp 62) _ rfl W.heap.size 5 i0 _ 1 1 Try.underlying22 hi0 hz0 hz1 hz2 rfl (by omega) u3 _ (cellsOf _) rfl (ownsRow_alloc hg.own _) _ 1 _ rfl (sees_one _ _ _ _) (by simp [Value.oneCell']) (by simp only [maxLen]; omega) (by omega) (by have := hg.size; simp; omega) ?_; intro v2 w2 ho2 hon2)
      have hg5 := hg.app HHT.out ho2 hon2
      obtain ⟨LN, hLN⟩ : ∃ n, n = 1 + 17 + 8 + 2 + val.size + 1 + np + 1 := ⟨_, rfl⟩
      obtain ⟨XS, hXS⟩ : ∃ X, X = [code % 256] ++ putTok ⟨tb, tg, ts, tx⟩ ++ put ver 8 ++ text val ++ put page.length 1 ++ page.flatMap pairB ++ flag more := ⟨_, rfl⟩
      have HG5 := Lib.hid (hg5.eq (len' := LN) (ys := XS) (by rw [hLN]) (by rw [hXS, ← HBT.out]; congr 1; cases more <;> rfl))
      have HXS := Lib.hid (And.intro hXS hLN)
      have hLNle : LN ≤ 400000000 := by omega
      clear hg5 hXS hLN hg ho2 hon2
      go_wp2_with fail
      go_loopw [3, 5] (fun s i wr => ∃ k : Nat, k ≤ 4 ∧ i = .int .i64 (k : Int) ∧ RGo W W.heap.size W.heap.size 63 #[.int .i64 code, .int .i64 tb, .int .u32 (tg : Int), .int .u32 (ts : Int), .int .u64 (tx : Int), .int .u64 (ver : Int), .string val, .slice pa page.length pc, .bool more, .slice sa 4 sc, .slice ba buckets.length bc] wr s (LN + 8 * k) (XS ++ (st.take k).flatMap (fun n => put n 8))) (fun _ i _ => 4 - (intOf i).toNat)
      case atStart => exact ⟨0, Nat.zero_le _, rfl, HG5.out.eq rfl (by simp)⟩
      case round =>
        obtain ⟨k, hk, rfl, hg⟩ := hrel
        clear HG5
        by_cases hlt : k < 4
        · have hls : k < st.length := by have := HSL.out.1; omega
          obtain ⟨b, off, rfl, hlo, hblt, hc⟩ := HSX.out (show 0 < st.length by omega)
          obtain ⟨n, hne⟩ : ∃ n, n = st[k] := ⟨_, rfl⟩
          have hnl : n < 18446744073709551616 := HSL.out.2 n (hne ▸ List.getElem_mem hls)
          have e0 := (hg.below.cell (p := ⟨b, off + k, none⟩) (by show b < W.heap.size; omega)).trans (show W.cell? ⟨b, off + k, none⟩ = some (.int .u64 (n : Int)) from by have := hc k hls 0 (.int .u64 (n : Int)) (by rw [← hne]; rfl); simpa using this)
          have HNE := Lib.hid (And.intro hne hls)
          have c9 := hg.cell 9 rfl
          clear hne hc
          go_wp2_with fail
          clear e0 c9
          refine (refPut_any n hnl 8 (by omega) _ _ _ W.heap.size _ hg.own hg.size (by omega)).mono ?_
          rintro e w6 ⟨v6, rfl, ho, hon⟩
          have HO2 := Lib.hid (hg.step HHT.out ho hon)
          clear ho hon hg
          go_wp2_with fail
          go_roundw
          case rel =>
            have hls2 := HNE.out.2
            refine ⟨k + 1, by omega, by go_num, HO2.out.eq (by omega) ?_⟩
            rw [flat_snoc _ _ _ hls, ← HNE.out.1]; simp
          case measure => simp [intOf]; omega
        · have hkl : k = 4 := by omega
          subst hkl
          have hst4 := HSL.out.1
          have hg := hg.eq rfl (by rw [List.take_of_length_le (Nat.le_of_eq hst4)])
          have c10 := hg.cell 10 rfl
          clear hlt hk hst4
          go_wp2_with (at_builtin; refine wpList_append_onto rfl (.tmp 81) (.tmp 86) _ rfl W.heap.size 5 i0 _ 1 1 Try.underlying22 hi0 hz0 hz1 hz2 rfl (by omega) _ _ (cellsOf _) rfl (ownsRow_alloc hg.own _) _ 1 _ rfl (sees_one _ _ _ _) (by simp [Value.oneCell']) (by simp only [maxLen]; omega) (by omega) (by have := hg.size; simp; omega) ?_; intro v2 w2 ho2 hon2)
          have hg6 := hg.app HHT.out ho2 hon2
          obtain ⟨LM, hLM⟩ : ∃ n, n = LN + 8 * 4 + 1 := ⟨_, rfl⟩
          obtain ⟨YS, hYS⟩ : ∃ X, X = XS ++ st.flatMap (fun n => put n 8) ++ put buckets.length 1 := ⟨_, rfl⟩
          have HG6 := Lib.hid (hg6.eq (len' := LM) (ys := YS) (by rw [hLM]) (by rw [hYS]; rfl))
          have HYS := Lib.hid (And.intro hYS hLM)
          have hLMle : LM ≤ 400000100 := by omega
          have c10 := HG6.out.cell 10 rfl
          clear hg6 hYS hLM hg ho2 hon2
          go_wp2_with fail
          go_loopw [3, 7] (fun s i wr => ∃ k : Nat, k ≤ buckets.length ∧ i = .int .i64 (k : Int) ∧ RGo W W.heap.size W.heap.size 63 #[.int .i64 code, .int .i64 tb, .int .u32 (tg : Int), .int .u32 (ts : Int), .int .u64 (tx : Int), .int .u64 (ver : Int), .string val, .slice pa page.length pc, .bool more, .slice sa 4 sc, .slice ba buckets.length bc] wr s (LM + k) (YS ++ (buckets.take k).flatMap intB)) (fun _ i _ => buckets.length - (intOf i).toNat)
          case atStart => exact ⟨0, Nat.zero_le _, rfl, HG6.out.eq rfl (by simp)⟩
          case round =>
            obtain ⟨k, hk, rfl, hg⟩ := hrel
            clear HG6 c10
            have c10 := hg.cell 10 rfl
            by_cases hlt : k < buckets.length
            · obtain ⟨b, off, rfl, hlo, hblt, hc⟩ := HBX.out (show 0 < buckets.length by omega)
              obtain ⟨z, hze⟩ : ∃ x, x = buckets[k] := ⟨_, rfl⟩
              have e0 := (hg.below.cell (p := ⟨b, off + k, none⟩) (by show b < W.heap.size; omega)).trans (show W.cell? ⟨b, off + k, none⟩ = some (.int .i64 z) from by have := hc k hlt 0 (.int .i64 z) (by rw [← hze]; rfl); simpa using this)
              have HZE := Lib.hid hze
              have hwz := wrap_u8 z
              clear hze hc
              go_wp2_with (at_builtin; refine wpList_append_onto rfl (.tmp 95) (.tmp 102) _ rfl W.heap.size 5 i0 _ 1 1 Try.underlying22 hi0 hz0 hz1 hz2 rfl (by omega) _ _ (cellsOf _) rfl (ownsRow_alloc hg.own _) _ 1 _ rfl (sees_one _ _ _ _) (by simp [Value.oneCell']) (by simp only [maxLen]; omega) (by omega) (by have := hg.size; simp; omega) ?_; intro v2 w2 ho2 hon2)
              have HO2 := Lib.hid (hg.app HHT.out ho2 hon2)
              clear ho2 hon2 hg e0 c10
              go_wp2_with fail
              go_roundw
              case rel =>
                refine ⟨k + 1, by omega, by go_num, HO2.out.eq (by omega) ?_⟩
                rw [flat_snoc _ _ _ hlt, ← HZE.out]; simp [intB, u64_byte]
              case measure => simp [intOf]; omega
            · have hkl : k = buckets.length := by omega
              subst hkl
              have HG := Lib.hid (hg.eq rfl (by rw [List.take_of_length_le (Nat.le_refl _)]))
              clear hg hlt hk
              go_wp2_with fail
              go_ret
              refine ⟨_, rfl, row_eq HG.out.own ?_ ?_, HG.out.below⟩
              · rw [HENC.out, HYS.out.2, HXS.out.2]
                simp only [List.length_append, put_length, text_length, ints_len, flag, putTok, ← HNP.out, stat_len, HSL.out.1, List.length_singleton]
                omega
              · rw [HENC.out, HYS.out.1, HXS.out.1]
                simp only [List.append_assoc]
theorem renc_any (r : Rs) (hr : RsSo r) (pv sv bv : Value) (lo : Nat) (W : World) (hp : ShowsFrom pcells 2 lo W pv r.page) (hs : ShowsFrom ucells 1 lo W sv (statOf r)) (hb : ShowsFrom icells 1 lo W bv r.buckets) :
    Calls Try.prog 16 #[rrv r pv sv bv] W fun e w' => EncIs r W e w' := by
  by_cases h : r.code = 0
  · exact renc_yes r hr h pv sv bv lo W hp hs hb
  · exact renc_no r h pv sv bv W
end Go.Proofs.Ytbdbbnpkekcefaa.Cmd
