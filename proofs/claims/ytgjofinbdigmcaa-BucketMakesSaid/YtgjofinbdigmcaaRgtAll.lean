/- All tokens, as records, in a row of the call's own. -/
import Derived.Test.YtgjofinbdigmcaaRgtA
import Derived.Test.YtgjofinbdigmcaaSrtD
import Derived.Test.YtgjofinbdigmcaaMany
import Derived.Lib.SlKeysI
import Derived.Great.BuildSlice
import Derived.Laws.Tables
namespace Go.Proofs.Ytgjofinbdigmcaa.Rgt
open Go.Proofs.Ytgjofinbdigmcaa.Mem
open Go.ChangeShapes Go.WideShapes Go.ChangeAt Go.RowKit
set_option linter.unusedVariables false
set_option linter.unusedSimpArgs false
def rcells (x : Tok) : List Value := [.int .i64 5, .int .i64 0, .int .u32 1, .int .i64 0, .int .i64 0, .int .i64 0, .int .u64 0, .int .u32 (x.s : Int), .int .i64 x.r, .int .u64 (x.k : Int), .string ⟨#[]⟩, .string ⟨#[]⟩, .int .u64 0, .int .u64 0]
theorem rcells_length (x : Tok) : (rcells x).length = 14 := rfl
theorem rcells_one (x : Tok) : ∀ u ∈ rcells x, u.oneCell' = true := by simp [rcells, Value.oneCell']
theorem rec_info : (Try.prog.info? 33).map (fun i => (i.zero, i.size, i.bytes)) = some (some (.agg #[.int .i64 0, .int .i64 0, .int .u32 0, .int .i64 0, .int .i64 0, .int .i64 0, .int .u64 0, .int .u32 0, .int .i64 0, .int .u64 0, .string ⟨#[]⟩, .string ⟨#[]⟩, .int .u64 0, .int .u64 0]), 14, 128) := by kernel_rfl
theorem rec_size : (Try.prog.info? 33).map (·.size) = some 14 := by kernel_rfl
def rcl (l : List Tok) : List Value := l.flatMap rcells
theorem rcl_snoc (l : List Tok) (x : Tok) : rcl (l ++ [x]) = rcl l ++ rcells x := by simp [rcl]
theorem rcl_length (l : List Tok) : (rcl l).length = l.length * 14 := flat_length rcells_length l
theorem sees_rec (w : World) (x : Tok) (e : TypeId) (fr : Nat × Nat) (g : Nat) (hg : g = w.heap.size) : Sees (w.alloc (.cells (rcells x).toArray e fr)) 14 (.slice (some ⟨g, 0, none⟩) 1 1) 1 (rcells x) := by
  subst hg
  refine .inr ⟨_, _, rfl, by simp [rcells], fun j u hu => ?_⟩
  refine ⟨by simp, ?_⟩
  rw [add_none, Nat.zero_add, World.cell?_alloc_mark]
  simpa using hu
/- The keys of the map, sorted, are the tokens' serials. -/
def serials (T : List Tok) : List Int := T.map fun x => (x.s : Int)
section
variable {w w' : World} {p mb : Nat} {T : List Tok}
theorem key_nat {n : Nat} {D : DataW Tk} (hm : w.ownsMap Try.prog 29 tokElem mb n D) {x : Int} (h : Maps.has D (.int .u32 x) = true) : ∃ s : Nat, x = (s : Int) := by
  obtain ⟨es, rfl, hko⟩ := hm.keysOf
  rw [Maps.has_eq, List.any_eq_true] at h
  obtain ⟨q, hq, hs⟩ := h
  obtain ⟨v, hv⟩ := hko q hq
  obtain ⟨y, _, hy, hw⟩ := Maps.keyOf_int_inv Try.underlying29 hv
  rw [hy] at hs
  have hxy : y = x := by simpa [Lit.sameKey] using hs
  have : 0 ≤ y ∧ y ≤ 4294967295 := by simpa [Lit.wf, IntKind.min, IntKind.max, IntKind.signed, IntKind.bits] using hw
  exact ⟨x.toNat, by omega⟩
theorem look_has {s : Nat} {T : List Tok} (hT : Ris T) : (look s T).isSome = true ↔ ∃ x ∈ T, x.s = s := by
  constructor
  · intro h
    obtain ⟨x, hx⟩ := Option.isSome_iff_exists.1 h
    exact ⟨x, look_mem hx⟩
  · rintro ⟨x, hx, rfl⟩
    cases h : look x.s T with
    | none => exact absurd rfl (look_none h x hx)
    | some y => rfl
theorem serials_rise {T : List Tok} (hT : Ris T) : (serials T).Pairwise (fun a b => a < b) := by
  unfold serials
  rw [List.pairwise_map]
  exact hT.imp (fun h => by omega)
theorem keys_are {n : Nat} {D : DataW Tk} (hm : w.ownsMap Try.prog 29 tokElem mb n D) (ht : Tells D T) (hT : Ris T) {ss : List Int} (hA : Srt.All D ss) : Srt.up ss = serials T := by
  have hr := serials_rise hT
  have hp : ss.Perm (serials T) := by
    refine (List.perm_ext_iff_of_nodup hA.came.1 (hr.imp (fun h => by omega))).2 fun x => ?_
    rw [hA.came.2 x]
    simp only [and_true]
    unfold serials
    rw [List.mem_map]
    constructor
    · intro h
      obtain ⟨s, rfl⟩ := key_nat hm h
      rw [ht.has] at h
      obtain ⟨y, hy, rfl⟩ := (look_has hT).1 h
      exact ⟨y, hy, rfl⟩
    · rintro ⟨y, hy, rfl⟩
      rw [ht.has]
      exact (look_has hT).2 ⟨y, hy, rfl⟩
  have h1 : Srt.up ss = Srt.up (serials T) := mergeSort_of_perm_i hp
  rw [h1]
  unfold Srt.up
  exact List.mergeSort_of_pairwise (hr.imp (fun h => by simp; omega))
theorem look_of_mem : ∀ {T : List Tok}, Ris T → ∀ {x : Tok}, x ∈ T → look x.s T = some x
  | [], _, _, h => (by cases h)
  | y :: T, hT, x, h => by
    have hp := List.pairwise_cons.1 hT
    unfold look
    rcases List.mem_cons.1 h with rfl | h
    · rw [if_pos rfl]
    · have := hp.1 x h
      rw [if_neg (by omega)]
      exact look_of_mem hp.2 h
/- What is looked up, without a second result. -/
theorem RAt.look1 (h : RAt w p mb T) {x : Tok} (hx : x ∈ T) :
    (Instr.lookup 75 (.map (some mb)) (.int .u32 (x.s : Int)) false).run Try.prog w = .ok (.agg #[.int .i64 x.r, .int .u64 (x.k : Int)]) w := by
  obtain ⟨n, D, hm, hn, ht⟩ := h.map
  have hs := (h.good.ok x hx).s
  have hl := look_of_mem h.good.ris hx
  obtain ⟨v, ps, hrun, hv⟩ := hm.lookup law Try.underlying75 (zeroTok w) (tokElem_is 0 0) (key32 hs)
  rw [hrun]
  rw [ht.key x.s x hl] at hv
  have e := hv
  unfold tokElem at e
  split at e
  · simp only [Option.some.injEq, Prod.mk.injEq, DataW.held.injEq] at e
    obtain ⟨⟨rfl, rfl⟩, _⟩ := e
    rfl
  · cases e
theorem rgt_keys (h : RAt w p mb T) : Calls Try.prog 46 #[.func (.func Srt.it) #[] #[.pointer (some ⟨w.heap.size, 0, none⟩)]] (w.alloc (.cells #[.map (some mb)] 75)) fun e w' =>
    ∃ a c, e = .returned (.slice a T.length c) ∧ w'.ownsRow w.heap.size 29 1 (.slice a T.length c) T.length ((serials T).map Srt.enc) ∧ But (fun _ => False) w w' := by
  obtain ⟨n, D, hm, hn, ht⟩ := h.map
  have hs := h.good.len
  refine (Srt.sorted_any hm (by rw [ht.size]; omega)).mono ?_
  rintro e w' ⟨v, ss, rfl, hA, hr, hb⟩
  have hk := keys_are hm ht h.good.ris hA
  have hl : ss.length = T.length := by
    have := Srt.up_length ss
    rw [hk] at this
    simpa [serials] using this.symm
  rw [hk, hl] at hr
  rcases hr.2 with ⟨rfl, h0⟩ | ⟨g, cap, cur, rfl, _⟩
  · exact ⟨none, 0, by rw [h0], by rw [h0] at hr ⊢; exact hr, hb⟩
  · exact ⟨_, cap, rfl, hr, hb⟩
set_option maxRecDepth 100000 in
set_option maxHeartbeats 2000000 in
theorem rgt_all (h : RAt w p mb T) : Calls Try.prog 30 #[.pointer (some ⟨p, 0, none⟩)] w fun e w' => ∃ a c, e = .returned (.slice a T.length c) ∧ w'.ownsRow w.heap.size 33 14 (.slice a T.length c) T.length (rcl T) ∧ But (fun _ => False) w w' := by
  obtain ⟨D, hm, ht⟩ := h.tight
  have c0 : w.cell? ⟨p, 0, none⟩ = some (.map (some mb)) := h.blk.cell 0
  have hl := hm.len Try.underlying75
  rw [ht.size] at hl
  obtain ⟨i0, hi0, hz⟩ := Option.map_eq_some_iff.1 rec_info
  simp only [Prod.mk.injEq] at hz
  obtain ⟨hz0, hz1, hz2⟩ := hz
  have hlen := h.good.len
  have H := Lib.hid h
  have HT := Lib.hid ht
  obtain ⟨n, hn⟩ : ∃ n, n = T.length := ⟨_, rfl⟩
  rw [← hn] at hl hlen hm ⊢
  have HN := Lib.hid hn
  have HM := Lib.hid hm
  clear h hm ht hn
  go_enter Try.func30, Try.ntmps30
  go_wp2_with (first
    | (at_make; refine wpList_make_own _ rfl _ _ 44 rfl w.heap.size 33 i0 _ 14 Try.underlying44 hi0 hz0 hz1 .i64 .i64 (n : Int) n rfl rfl (by omega) (by rw [hz2]; omega) (by unfold maxLen; omega) (Nat.le_refl _) ?_; intro w1 ho1 hg1
       have HB1 := Lib.hid (show But (fun _ => False) w w1 from (But.of_grown hg1).mono (fun j hj h => by cases h))
       have HO1 := Lib.hid ho1
       have H1 := Lib.hid (H.out.new HB1.out)
       have c1 : w1.cell? ⟨p, 0, none⟩ = some (.map (some mb)) := H1.out.blk.cell 0
       have HK := Lib.hid (Srt.keys_call mb w1)
       have HS := Lib.hid (rgt_keys H1.out)
       rw [← HN.out] at HS
       clear c0 hl ho1 hg1)
    | (go_at_call 47; refine HK.out.mono ?_; rintro e w2 ⟨rfl, rfl⟩; clear c1)
    | (go_at_call 46; refine HS.out.mono ?_; rintro e w3 ⟨a, ca, rfl, hr, hb⟩
       have HR := Lib.hid hr
       have HB3 := Lib.hid hb
       clear hr hb))
  have HB := Lib.hid (HB1.out.trans' HB3.out)
  have HR0 := Lib.hid (show w3.ownsRow w.heap.size 29 1 (.slice a n ca) n ((serials T).map Srt.enc) from by
    have h1 := HR.out
    refine ⟨h1.1, ?_⟩
    rcases h1.2 with h2 | ⟨g, cap, cur, e, hg, r⟩
    · exact .inl h2
    · exact .inr ⟨g, cap, cur, e, by have := HB1.out.size; omega, r⟩)
  have HO3 := Lib.hid (ownsRow_but HO1.out HB3.out (fun _ _ h => h))
  clear HR HB3 HO1 HB1 HS HK H1
  go_loopw [3, 20] (fun v x wr => ∃ (k : Nat) (g c : Nat), k ≤ n ∧ x = .int .i64 (k : Int) ∧ v = .slice (some ⟨g, 0, none⟩) k c ∧ wr.ownsRow w.heap.size 33 14 (.slice (some ⟨g, 0, none⟩) k c) k (rcl (T.take k)) ∧ wr.ownsRow w.heap.size 29 1 (.slice a n ca) n ((serials T).map Srt.enc) ∧ But (fun _ => False) w wr) (fun _ x _ => n - (intOf x).toNat)
  case atStart => exact ⟨0, _, _, by omega, rfl, rfl, HO3.out, HR0.out, HB.out⟩
  case round =>
    obtain ⟨k, r, c, hk, rfl, rfl, hO, hR, hB⟩ := hrel
    have HO := Lib.hid hO
    have HRk := Lib.hid hR
    have HBk := Lib.hid hB
    by_cases hlt : k < n
    · have hkT : k < T.length := by rw [← HN.out]; exact hlt
      obtain ⟨gk, rfl, hgk⟩ : ∃ gk, a = some ⟨gk, 0, none⟩ ∧ gk < wr.heap.size := by
        rcases hR.2 with ⟨_, h0⟩ | ⟨g, cap, cur, e, hg, hh, _⟩
        · omega
        · injection e with e
          exact ⟨g, e, (Array.getElem?_eq_some_iff.1 hh).1⟩
      obtain ⟨x, hx⟩ : ∃ x, x = T[k] := ⟨_, rfl⟩
      have ck : wr.cell? ⟨gk, k, none⟩ = some (.int .u32 (x.s : Int)) := by
        have h1 := hR.cellAt k (by omega)
        (try rw [Nat.zero_add] at h1)
        rw [h1, hx]
        simp [serials, Srt.enc, hkT]
      have hW := H.out.new hB
      have c0 : wr.cell? ⟨p, 0, none⟩ = some (.map (some mb)) := hW.blk.cell 0
      have lk := hW.look1 (x := x) (by rw [hx]; exact List.getElem_mem hkT)
      have htk : T.take (k + 1) = T.take k ++ [x] := by rw [hx]; exact List.take_succ_eq_append_getElem hkT
      have HTK := Lib.hid htk
      have HO2 := Lib.hid (ownsRow_alloc hO (.cells #[.int .i64 x.r, .int .u64 (x.k : Int)] 87))
      have hsz := hB.size
      clear hO hR hB hW htk hkT hx
      go_wp2_with (at_builtin; refine wpList_append_onto rfl (.tmp 30) (.tmp 37) _ rfl w.heap.size 33 i0 _ 14 128 Try.underlying44 hi0 hz0 hz1 hz2 rfl (by omega) (.slice (some ⟨r, 0, none⟩) k c) k (rcl (T.take k)) rfl (ownsRow_alloc HO2.out _) (.slice (some ⟨wr.heap.size + 1, 0, none⟩) 1 1) 1 (rcells x) rfl (sees_rec _ x _ _ _ (by simp)) (rcells_one x) (by simp only [maxLen]; omega) (by omega) (by simp; omega) ?_; intro v5 w5 ho5 hon5)
      rw [← rcl_snoc, ← HTK.out] at ho5
      obtain ⟨g5, c5, rfl⟩ : ∃ g c, v5 = .slice (some ⟨g, 0, none⟩) (k + 1) c := by
        rcases ho5.2 with ⟨_, h⟩ | ⟨g, cap, cur, hv, _⟩
        · omega
        · exact ⟨g, cap, hv⟩
      have hrl := (HO.out.lt r rfl).2
      have hrg := (HO.out.lt r rfl).1
      have hon := (hon5.of_alloc (fun j hj => by
        have hj : r = j := by simpa [Value.ownBlock] using hj
        simp; omega)).of_alloc (fun j hj => by
        have hj : r = j := by simpa [Value.ownBlock] using hj
        omega)
      have hne : r ≠ gk := by
        rintro rfl
        rcases HO.out.2 with ⟨h1, _⟩ | ⟨g, cap, cur, h1, _, h3, _⟩
        · cases h1
        · rcases HRk.out.2 with ⟨h4, h5⟩ | ⟨g', cap', cur', h4, _, h6, _⟩
          · cases h4
          · injection h1 with h1
            injection h4 with h4
            cases h1
            cases h4
            rw [h3] at h6
            simp only [Option.some.injEq, Obj.cells.injEq] at h6
            exact absurd h6.2.1 (by decide)
      have hr5 := ownsRow_but HRk.out hon.but (fun j hj e => by
        have hj : gk = j := by simpa [Value.ownBlock] using hj
        have e : j = r := by simpa [Value.ownBlock] using e
        omega)
      have HX := Lib.hid (And.intro ho5 (And.intro hr5 (HBk.out.trans hon.but (fun j hj e => by
        have e : j = r := by simpa [Value.ownBlock] using e
        omega))))
      clear ho5 hon5 hon hr5 hne ck c0 lk
      go_wp2
      go_roundw
      case rel => exact ⟨k + 1, g5, c5, by omega, by go_num, rfl, HX.out.1, HX.out.2.1, HX.out.2.2⟩
      case measure => (simp [intOf] <;> omega)
    · have hkn : k = n := by omega
      clear hO hR hB
      go_wp2
      go_ret
      refine ⟨some ⟨r, 0, none⟩, c, by rw [hkn]; rfl, ?_, HBk.out⟩
      have h1 := HO.out
      rw [hkn] at h1
      rwa [show T.take n = T from by rw [HN.out, List.take_length]] at h1
end
end Go.Proofs.Ytgjofinbdigmcaa.Rgt
