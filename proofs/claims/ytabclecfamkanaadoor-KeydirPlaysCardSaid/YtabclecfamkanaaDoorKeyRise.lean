/- Entries rise strictly: no key is there twice. -/
import Derived.Test.YtabclecfamkanaaDoorKeyPR
namespace Go.Proofs.YtabclecfamkanaaDoor.Key
open Go.Proofs.YtabclecfamkanaaDoor.Mem Go.Proofs.YtabclecfamkanaaDoor.Fnv
open Go.ChangeShapes Go.WideShapes Go.ChangeAt Go.RowKit
set_option linter.unusedVariables false
set_option linter.unusedSimpArgs false
theorem mem_entsk {T : Tab} {e : Ent} : ∀ {k : Nat}, k ≤ T.length → e ∈ ents T k → ∃ j, j < k ∧ look T j = some e
  | 0, _, h => by simp [ents] at h
  | k + 1, hk, h => by
    cases hq : look T k with
    | none =>
      rw [ents_none (by omega) hq] at h
      obtain ⟨j, h1, h2⟩ := mem_entsk (by omega) h
      exact ⟨j, by omega, h2⟩
    | some f =>
      rw [ents_some (by omega) hq] at h
      rcases List.mem_append.1 h with h | h
      · obtain ⟨j, h1, h2⟩ := mem_entsk (by omega) h
        exact ⟨j, by omega, h2⟩
      · rw [List.mem_singleton.1 h]
        exact ⟨k, by omega, hq⟩
theorem ents_apart {T : Tab} (hw : WF T) : ∀ {k : Nat}, k ≤ T.length → (ents T k).Pairwise fun x y => x.key ≠ y.key
  | 0, _ => by simp [ents]
  | k + 1, hk => by
    have ih := ents_apart hw (k := k) (by omega)
    cases hq : look T k with
    | none => rw [ents_none (by omega) hq]; exact ih
    | some f =>
      rw [ents_some (by omega) hq]
      refine List.pairwise_append.2 ⟨ih, by simp, fun x hx y hy => ?_⟩
      rw [List.mem_singleton.1 hy]
      obtain ⟨j, h1, h2⟩ := mem_entsk (by omega) hx
      intro he
      have := look_one hw h2 hq he
      omega
theorem strictly {T : Tab} {L : List Ent} (hw : WF T) (hp : L.Perm (ents T T.length)) (hr : rises L) {i j : Nat} (hij : i < j) (hj : j < L.length) : (Op.bytesLess (L[j]).key.toList (L[i]).key.toList || (L[j]).key.toList == (L[i]).key.toList) = false := by
  have h1 : L.Pairwise fun x y => x.key ≠ y.key := hp.symm.pairwise (ents_apart hw (Nat.le_refl _)) (fun {_ _} h e => h e.symm)
  have h2 := List.pairwise_iff_getElem.1 h1 i j (by omega) hj hij
  have h3 := List.pairwise_iff_getElem.1 hr i j (by omega) hj hij
  rw [less_cmp, ByteArray.toList_eq, ByteArray.toList_eq]
  refine decide_eq_false (fun h => ?_)
  unfold kc at h3
  have h4 := cmp_eq _ _ (show cmp (L[j]).key.data.toList (L[i]).key.data.toList = 0 by omega)
  apply h2
  generalize (L[i]).key = a at *
  generalize (L[j]).key = b at *
  obtain ⟨⟨x⟩⟩ := a
  obtain ⟨⟨y⟩⟩ := b
  simp at h4
  rw [h4]
theorem Ents.but {w w' : World} {a : Option Addr} {L : List Ent} (h : Ents w a L) (hb : But (fun _ => False) w w') : Ents w' a L := by
  obtain ⟨g, ha, hg, hc⟩ := h.at_
  exact ⟨g, ha, Nat.lt_of_lt_of_le hg hb.size, fun i hi j hj => by rw [hb.cell (p := ⟨g, i * 7 + j, none⟩) hg (fun h => h)]; exact hc i hi j hj⟩
theorem Ents.range {w : World} {g : Nat} {L : List Ent} (h : Ents w (some ⟨g, 0, none⟩) L) {i : Nat} (hi : i < L.length) : w.rangeAt g (i * 7) (ecells L[i]) := by
  obtain ⟨g', ha, hg, hc⟩ := h.at_
  injection ha with ha
  injection ha with ha
  subst ha
  intro j v hv
  have hj : j < 7 := by rw [← ecells_length L[i]]; exact (List.getElem?_eq_some_iff.1 hv).1
  rw [hc i hi j hj]
  exact hv
theorem Ents.key {w : World} {g : Nat} {L : List Ent} (h : Ents w (some ⟨g, 0, none⟩) L) {i : Nat} (hi : i < L.length) : w.cell? ⟨g, i * 7, none⟩ = some (.string (L[i]).key) := h.range hi 0 _ rfl
end Go.Proofs.YtabclecfamkanaaDoor.Key
