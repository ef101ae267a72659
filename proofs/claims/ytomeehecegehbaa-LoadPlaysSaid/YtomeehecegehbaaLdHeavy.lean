/- Heavy: the buckets whose load isn't 0, by falling sums of both parts, then by rising numbers. -/
import Derived.Test.YtomeehecegehbaaLdOrder
import Derived.Test.YtomeehecegehbaaLdNil
import Derived.Test.YtomeehecegehbaaLdSort
namespace Go.Proofs.Ytomeehecegehbaa.Ld
open Go.Proofs.Ytomeehecegehbaa.Mem
open Go.ChangeShapes Go.WideShapes Go.ChangeAt Go.RowKit Go.Sort Go.Shelf
open Go.Proofs
set_option linter.unusedVariables false
set_option linter.unusedSimpArgs false
/- A slice that shows numbers. -/
structure Ints (w : World) (v : Value) (hs : List Int) : Prop where
  at_ : ∃ a cap, v = .slice a hs.length cap ∧ ∀ i (h : i < hs.length), ∃ g, a = some ⟨g, 0, none⟩ ∧ g < w.heap.size ∧ w.cell? ⟨g, i, none⟩ = some (.int .i64 hs[i])
def Falls (f : Int → Pr) (hs : List Int) : Prop := hs.Pairwise fun x y => ¬ cf f y x < 0
structure K64 where
  val : Int
  ok : I64 val
instance : Inhabited K64 := ⟨⟨0, by unfold I64; omega⟩⟩
def encK (x : K64) : Value := .int .i64 x.1
def cfK (f : Int → Pr) (x y : K64) : Int := cf f x.1 y.1
theorem cf_self (f : Int → Pr) (x : Int) : ¬ cf f x x < 0 := by rw [cf_neg]; omega
theorem cf_trans {f : Int → Pr} {x y z : Int} (h1 : cf f x y < 0) (h2 : cf f y z < 0) : cf f x z < 0 := by rw [cf_neg] at *; omega
theorem cf_ntrans {f : Int → Pr} {x y z : Int} (h1 : ¬ cf f x y < 0) (h2 : ¬ cf f y z < 0) : ¬ cf f x z < 0 := by rw [cf_neg] at *; omega
theorem cfK_swo (f : Int → Pr) : SWO (ltOf (cfK f)) where
  irrefl x := decide_eq_false (cf_self f x.1)
  trans x y z h1 h2 := decide_eq_true (cf_trans (of_decide_eq_true h1) (of_decide_eq_true h2))
  ntrans x y z h1 h2 := decide_eq_false (cf_ntrans (of_decide_eq_false h1) (of_decide_eq_false h2))
theorem all_k : ∀ ss : List Int, (∀ x ∈ ss, I64 x) → ∃ d : List K64, d.map (fun x => x.1) = ss
  | [], _ => ⟨[], rfl⟩
  | x :: ss, h => by
    obtain ⟨d, hd⟩ := all_k ss (fun y hy => h y (List.mem_cons_of_mem _ hy))
    exact ⟨(⟨x, h x List.mem_cons_self⟩ : K64) :: d, by rw [List.map_cons, hd]⟩
theorem but_sort {α : Type} [Inhabited α] (enc : α → Value) (w : World) (blk off n : Nat) (d : Array α) (os : Array Obj) : But (fun k => k = blk) w (sortWorld enc w blk off n d os) := by
  refine ⟨rfl, rfl, rfl, ?_, fun j hj hne => ?_⟩
  · show w.heap.size ≤ ((w.heap.modify blk _) ++ os).size
    rw [Array.size_append, Array.size_modify]; omega
  · show ((w.heap.modify blk _) ++ os)[j]? = w.heap[j]?
    rw [Array.getElem?_append_left (by rw [Array.size_modify]; exact hj), Array.getElem?_modify, if_neg (Ne.symm hne)]
section
variable {w w' : World} {p mb N : Nat} {f : Int → Pr}
/- The keys of the loads. -/
theorem LAt.keys64 {n : Nat} {D : DataW Pr} (hm : w.ownsMap Try.prog 3 cxElem mb n D) {x : Int} (h : Maps.has D (.int .i64 x) = true) : I64 x := by
  obtain ⟨es, rfl, hko⟩ := hm.keysOf
  rw [Maps.has_eq, List.any_eq_true] at h
  obtain ⟨q, hq, hs⟩ := h
  obtain ⟨v, hv⟩ := hko q hq
  obtain ⟨y, _, hy, hw⟩ := Maps.keyOf_int_inv Try.underlying3 hv
  rw [hy] at hs
  have hxy : y = x := by simpa [Lit.sameKey] using hs
  have h2 : (-9223372036854775808 : Int) ≤ y ∧ y ≤ 9223372036854775807 := by simpa [Lit.wf, IntKind.min, IntKind.max, IntKind.signed, IntKind.bits] using hw
  rw [← hxy]
  exact h2
theorem sort_row {B g cap : Nat} {cur : Array Value} (ss : List Int) (hss : ∀ x ∈ ss, I64 x) (hB : w.cell? ⟨B, 0, none⟩ = some (.pointer (some ⟨p, 0, none⟩))) (hBl : B < w.heap.size) (h : LAt w p mb N f) (hg : w.heap[g]? = some (.cells cur 3 (0, 0)))
    (ht : cur.toList.take ss.length = ss.map enc) (hl : ss.length ≤ 100000) (h1 : B ≠ g) (h2 : p ≠ g) (h3 : mb ≠ g) :
    Calls Try.prog 16 #[.slice (some ⟨g, 0, none⟩) ss.length cap, .func (.func 17) #[] #[.pointer (some ⟨B, 0, none⟩)]] w fun e w' =>
      e = .returned (.tuple #[]) ∧ ∃ hs, hs.Perm ss ∧ Falls f hs ∧ Ints w' (.slice (some ⟨g, 0, none⟩) ss.length cap) hs ∧ But (fun k => k = g) w w' := by
  obtain ⟨d, hd⟩ := all_k ss hss
  have hdl : d.length = ss.length := by rw [← hd]; simp
  have hgl : g < w.heap.size := (Array.getElem?_eq_some_iff.1 hg).1
  have hH : Holds encK w g 0 d.toArray := by
    intro j hj
    have hj' : j < d.length := by simpa using hj
    refine ⟨?_, by simp [World.frozen?, hg]⟩
    rw [cell_of_row _ _ _ _ _ _ hg, Nat.zero_add]
    have e1 : (cur.toList.take ss.length)[j]? = (ss.map enc)[j]? := by rw [ht]
    rw [List.getElem?_take_of_lt (by omega), ← hd] at e1
    simp [hj'] at e1
    simp [e1, hj', encK, enc]
  have eg : ∀ args w, (callFunc 17 args).run Try.prog w = .ok (.enter 17 args) w := enters_of Try.func17 (by kernel_rfl) rfl
  have hcmp : CmpLays1 Try.prog 17 #[.pointer (some ⟨B, 0, none⟩)] encK (cfK f) g 0 d.toArray.size w := by
    intro m os dk _ x y
    have hb := but_sort encK w g 0 m dk os
    refine (closure_any (w := sortWorld encK w g 0 m dk os) ((hb.cell (p := ⟨B, 0, none⟩) hBl h1).trans hB) (h.but hb h2 h3) x.2 y.2).mono ?_
    rintro e w' ⟨rfl, rfl⟩
    exact ⟨rfl, 1, #[], by rw [grow_empty]; rfl⟩
  have hcon := Any.slices_SortFunc Try.sortInt encK (fun _ => rfl) (cfK f) (cfK_swo f) 17 #[.pointer (some ⟨B, 0, none⟩)] g 0 cap d.toArray w eg hcmp hH hgl (by simp; omega)
  rw [show d.toArray.size = ss.length from by simp [hdl]] at hcon
  refine Calls.mono hcon ?_
  rintro e w' ⟨rfl, d', n, os, hp, hs, rfl⟩
  have h0 : d'.size = d.length := by have := hp.1; simpa using this
  refine ⟨rfl, d'.toList.map (fun x => x.1), ?_, ?_, ?_, but_sort _ _ _ _ _ _ _⟩
  · have h1 := hp.2.2
    have e1 : d'.extract 0 ss.length = d' := Array.extract_eq_self_of_le (by rw [h0]; omega)
    have e2 : d.toArray.extract 0 ss.length = d.toArray := Array.extract_eq_self_of_le (by simp; omega)
    rw [e1, e2] at h1
    rw [← hd]
    exact h1.map _
  · unfold Falls
    rw [List.pairwise_map, List.pairwise_iff_getElem]
    intro i j hi hj hij
    have h1 := hs i j (Nat.zero_le _) hij (by simp at hj; omega)
    rw [getElem!_pos d' i (by simpa using hi), getElem!_pos d' j (by simpa using hj)] at h1
    exact of_decide_eq_false h1
  · refine ⟨some ⟨g, 0, none⟩, cap, by simp [h0, hdl], fun i hi => ⟨g, rfl, lt_sortWorld _ _ _ _ _ _ _ hgl, ?_⟩⟩
    have hk := holds_sortWorld encK w g 0 n d.toArray d' os hgl hH (by simpa using h0)
    have hi' : i < d'.size := by simpa using hi
    have h2 := (hk i hi').1
    rw [Nat.zero_add] at h2
    rw [h2, getElem!_pos d' i hi']
    simp [encK]
set_option maxRecDepth 100000 in
set_option maxHeartbeats 1000000 in
theorem ld_heavy (h : LAt w p mb N f) (hN : N ≤ 1000) : Calls Try.prog 11 #[.pointer (some ⟨p, 0, none⟩)] w fun e w' => ∃ v hs, e = .returned v ∧ Ks f hs ∧ Falls f hs ∧ (∀ x ∈ hs, I64 x) ∧ hs.length ≤ N ∧ Ints w' v hs ∧ But (fun _ => False) w w' := by
  have hb1 : But (fun _ => False) w (w.alloc (.cells #[.pointer (some ⟨p, 0, none⟩)] 24)) := (But.refl _ w).alloc _
  have hk1 : Blk (w.alloc (.cells #[.pointer (some ⟨p, 0, none⟩)] 24)) w.heap.size 24 #[.pointer (some ⟨p, 0, none⟩)] := Blk.new _ _ _
  have h1 := h.new hb1
  have hlt := h.lt
  obtain ⟨B, hB⟩ : ∃ B, B = w.heap.size := ⟨_, rfl⟩
  have hW1 : (w.alloc (.cells #[.pointer (some ⟨p, 0, none⟩)] 24)).heap.size = B + 1 := by simp [hB]
  rw [← hB] at hk1 hlt
  obtain ⟨n, D, hm, hn, ht⟩ := h1.map
  have c1 : (w.alloc (.cells #[.pointer (some ⟨p, 0, none⟩)] 24)).cell? ⟨B, 0, none⟩ = some (.pointer (some ⟨p, 0, none⟩)) := hk1.cell 0
  have c0 := h1.cell
  have HK := Lib.hid (keys_call mb (w.alloc (.cells #[.pointer (some ⟨p, 0, none⟩)] 24)))
  have HG := Lib.hid (gather_keys hm (by omega))
  unfold it at HG
  have HBB := Lib.hid (And.intro hk1 (And.intro h1 (And.intro hlt hb1)))
  have HM := Lib.hid hm
  have HT := Lib.hid (And.intro hn ht)
  rw [hW1] at HG HK
  clear hk1 h1 hb1 h hm hn ht
  go_enter Try.func11, Try.ntmps11
  go_wp2_with fail
  rw [← hB]
  generalize w.alloc (.cells #[.pointer (some ⟨p, 0, none⟩)] 24) = W1 at HK HG HBB HM HT hW1 c0 c1 ⊢
  have HW1 := Lib.hid (And.intro hB hW1)
  clear hB hW1
  refine HK.out.mono ?_
  rintro e w2 ⟨rfl, rfl⟩
  go_wp2_with fail
  refine HG.out.mono ?_
  rintro e w2 ⟨v, ss, rfl, hA, hr, hb2⟩
  have hh2 := HBB.out.2.1.new hb2
  have hk2 := HBB.out.1.but hb2 (fun h => h)
  have hks := HT.out.2.ks hA.came (fun _ => rfl)
  have hss : ∀ x ∈ ss, I64 x := fun x hx => LAt.keys64 HM.out ((hA.came.2 x).1 hx).1
  have hlen : ss.length ≤ N := by have := hA.len; have := HT.out.1; omega
  have hbw := HBB.out.2.2.2.trans' hb2
  have HX := Lib.hid (And.intro hks (And.intro hss (And.intro hlen hbw)))
  clear c0 c1 hbw hks
  rcases hr.2 with ⟨rfl, hz⟩ | ⟨gb, cap, cur, rfl, hbase, hgb, r1, r2, r3, r4⟩
  · obtain rfl : ss = [] := List.eq_nil_of_length_eq_zero hz
    have HN := Lib.hid (sort_none none 0)
    clear hr hz hA hb2 hh2 hk2 hss hlen
    go_wp2_with (first | (go_at_call 16; refine (HN.out _ _).mono ?_; rintro e w3 ⟨rfl, rfl⟩))
    go_ret
    exact ⟨_, [], rfl, HX.out.1, List.Pairwise.nil, HX.out.2.1, HX.out.2.2.1, ⟨none, 0, rfl, fun i hi => absurd hi (by simp)⟩, HX.out.2.2.2⟩
  · have hsz := HW1.out.2
    have hl2 := HBB.out.2.2.1
    have HS := Lib.hid (sort_row (cap := cap) ss hss (hk2.cell 0) hk2.lt hh2 hgb (by simpa using r4) (by omega) (by omega) (by omega) (by omega))
    have HGE := Lib.hid (show w.heap.size ≤ gb by have := HW1.out.1; omega)
    clear hr hgb hbase r1 r2 r3 r4 hA hb2 hh2 hk2 hss hlen hsz hl2
    go_wp2_with (first | (go_at_call 16; refine HS.out.mono ?_; rintro e w3 ⟨rfl, hs, hp, hf, hi, hb3⟩; have H3 := Lib.hid (And.intro hp (And.intro hf (And.intro hi hb3))); clear hp hf hi hb3))
    go_ret
    obtain ⟨hp, hf, hi, hb3⟩ := H3.out
    obtain ⟨hks, hss, hlen, hbw⟩ := HX.out
    exact ⟨_, hs, rfl, ⟨hp.nodup_iff.2 hks.1, fun x => (hp.mem_iff).trans (hks.2 x)⟩, hf, fun x hx => hss x (hp.mem_iff.1 hx), by rw [hp.length_eq]; exact hlen, hi, hbw.trans hb3 (fun i hi e => by have := HGE.out; omega)⟩
end
end Go.Proofs.Ytomeehecegehbaa.Ld
