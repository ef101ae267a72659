/- Contract of disk's List: the names, rising. -/
import Derived.Test.YtkppliljlcihmaaGreatDoorGL
import Derived.Test.YtkppliljlcihmaaGreatDoorDiskKeys
namespace Go.Proofs.YtkppliljlcihmaaGreatDoor.Disk
open Go.Proofs.YtkppliljlcihmaaGreatDoor.Mem
open Go.ChangeShapes Go.WideShapes Go.ChangeAt Go.RowKit Go.Sort Go.Shelf
open Go.Proofs (encStr)
set_option linter.unusedVariables false
def Rising {α : Type} (l : List (Nm × α)) : Prop := l.Pairwise fun x y => x.1 < y.1
theorem lt_irrefl_nm (x : Nm) : ¬ x < x := List.lt_irrefl x
theorem Rising.apart {α : Type} {l : List (Nm × α)} (h : Rising l) : Apart l := h.imp fun {x y} hlt e => by rw [e] at hlt; exact lt_irrefl_nm _ hlt
theorem names_sorted {D : DataW Nat} {es : List (Nm × Ent)} {w : World} {mb n : Nat} (hr : Rising es) (ht : Tells D es) (hm : w.ownsMap Tryz.prog 9 ptrElem mb n D) {ss : List Nm} (hp : ss.Perm (strKeys D)) :
    ss.mergeSort (fun x y => decide (x ≤ y)) = es.map (·.1) ∧ ss.length = es.length := by
  obtain ⟨xs, hD, hpw, _⟩ := hm.entries law
  obtain ⟨xs', hD', hko⟩ := hm.keysOf
  have hxx : xs = xs' := by rw [hD] at hD'; simpa using hD'
  subst hxx
  have hnd : (es.map (·.1)).Nodup := List.pairwise_map.2 hr.apart
  have hp2 : (es.map (·.1)).Perm (strKeys D) := by
    rw [hD]
    refine perm_strKeys hpw (fun p hp => by obtain ⟨v, hv⟩ := hko p hp; obtain ⟨x, _, hx, _⟩ := Maps.keyOf_str Tryz.underlying9 hv; exact ⟨x, hx⟩) hnd (fun x => ?_)
    rw [← hD, ht.has, Option.isSome_iff_exists, List.mem_map]
    constructor
    · rintro ⟨y, hy, rfl⟩
      exact ⟨y.2, look_of_mem hr.apart hy⟩
    · rintro ⟨e, he⟩
      exact ⟨_, look_mem he, rfl⟩
  have h3 := mergeSort_of_perm (hp.trans hp2.symm)
  have h4 : (es.map (·.1)).mergeSort leB = es.map (·.1) := by
    refine List.mergeSort_of_pairwise (List.pairwise_map.2 (hr.imp fun {x y} h => ?_))
    simp only [leB, decide_eq_true_eq]
    exact List.le_of_lt h
  refine ⟨h3.trans h4, ?_⟩
  have := (hp.trans hp2.symm).length_eq
  simpa using this
set_option maxRecDepth 100000 in
set_option maxHeartbeats 1000000 in
theorem list_at {w : World} {p mb : Nat} {S : St} {cr : Option Addr} {es : List (Nm × Ent)} {D : DataW Nat} (h : At w p S mb cr es D) (hr : Rising es) (hlen : es.length ≤ 1000000) :
    Calls Tryz.prog 58 #[.pointer (some ⟨p, 0, none⟩)] w fun e w' => ∃ v, e = .returned v ∧ w'.ownsRow w.heap.size 9 1 v es.length ((es.map (·.1)).map encStr) ∧ Below w.heap.size w w' := by
  have c0 : w.cell? ⟨p, 0, none⟩ = some (.map (some mb)) := h.blk.cell 0
  have hm := h.map
  have ht := Lib.hid h.tells
  have hmax : Maps.size D ≤ maxLen := by rw [h.tells.size]; unfold maxLen; omega
  have hbytes : Maps.size D * 16 ≤ 140737488355328 := by rw [h.tells.size]; omega
  clear h
  refine (callsIn_wide (n := 6)).1 ?_
  have hfK : Fence.wide.fn 88 := trivial
  have hfS : Fence.wide.fn 87 := trivial
  refine callsIn_of_wp Tryz.func58 rfl trivial ?_ rfl
  simp only [Tryz.ntmps58, List.size_toArray, List.length_cons, List.length_nil, Nat.reduceAdd, Nat.reduceSub, Array.replicate_succ, Array.replicate_zero, List.push_toArray, List.append_toArray, List.nil_append, List.cons_append]
  gi_wp2_with (first
    | (gi_at_call 88; refine (Tryz.maps_Keys_88 _ _).mono ?_; rintro e w' ⟨rfl, rfl⟩)
    | (gi_at_call 87; refine (Tryz.slices_Sorted_keys_87_88 mb es.length D ptrElem w hm hmax hbytes).mono ?_; rintro e w' ⟨v, ss, rfl, hS, hrow, hnil, hb⟩))
  go_ret
  obtain ⟨e1, e2⟩ := names_sorted hr ht.out hm hS
  refine ⟨v, rfl, ?_, ((Below.refl _ w).alloc (Nat.le_refl _) _).trans (hb.mono (by simp))⟩
  rw [e1, e2] at hrow
  exact ownsRow_base_a hrow (by simp)
end Go.Proofs.YtkppliljlcihmaaGreatDoor.Disk
