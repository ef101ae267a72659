/- The law's own list of tokens: where a serial is, or would be; what is put, and struck. -/
import Derived.Test.YtciplhpnbpmfeaaRgtAll
import Derived.Handy
namespace Go.Proofs.Ytciplhpnbpmfeaa.Rgt
open Go.Proofs.Ytciplhpnbpmfeaa.Mem
open Go.ChangeShapes Go.WideShapes Go.ChangeAt Go.RowKit
set_option linter.unusedVariables false
set_option linter.unusedSimpArgs false
def plc (s : Nat) : List Tok → Nat
  | [] => 0
  | y :: T => if y.s < s then plc s T + 1 else 0
theorem plc_le (s : Nat) : ∀ T : List Tok, plc s T ≤ T.length
  | [] => Nat.le_refl _
  | y :: T => by
    have := plc_le s T
    unfold plc
    split <;> simp <;> omega
theorem plc_below (s : Nat) : ∀ {T : List Tok} {i : Nat} (h : i < T.length), i < plc s T → T[i].s < s
  | [], i, h, _ => by simp at h
  | y :: T, i, h, hi => by
    unfold plc at hi
    split at hi
    · next hy =>
      cases i with
      | zero => exact hy
      | succ i =>
        have h1 : i < T.length := by simpa using h
        have h2 : i < plc s T := by omega
        exact plc_below s h1 h2
    · omega
theorem plc_at (s : Nat) : ∀ {T : List Tok} (h : plc s T < T.length), ¬ T[plc s T].s < s
  | [], h => by simp at h
  | y :: T, h => by
    by_cases hy : y.s < s
    · have e : plc s (y :: T) = plc s T + 1 := by rw [plc, if_pos hy]
      simp only [e, List.getElem_cons_succ]
      exact plc_at s (by rw [e] at h; simpa using h)
    · have e : plc s (y :: T) = 0 := by rw [plc, if_neg hy]
      simp only [e, List.getElem_cons_zero]
      exact hy
theorem plc_look {s : Nat} : ∀ {T : List Tok}, Ris T → ((look s T).isSome = true ↔ ∃ h : plc s T < T.length, T[plc s T].s = s)
  | [], _ => by simp [look, plc]
  | y :: T, hT => by
    have hp := List.pairwise_cons.1 hT
    by_cases hy : y.s < s
    · have e : plc s (y :: T) = plc s T + 1 := by rw [plc, if_pos hy]
      have el : look s (y :: T) = look s T := by rw [look, if_neg (by omega)]
      simp only [e, el, List.getElem_cons_succ, List.length_cons, Nat.add_lt_add_iff_right]
      exact plc_look hp.2
    · have e : plc s (y :: T) = 0 := by rw [plc, if_neg hy]
      simp only [e, List.getElem_cons_zero]
      rw [look_has hT]
      constructor
      · rintro ⟨x, hx, rfl⟩
        rcases List.mem_cons.1 hx with rfl | hx
        · exact ⟨by simp, rfl⟩
        · have := hp.1 x hx; omega
      · rintro ⟨_, h⟩
        exact ⟨y, List.mem_cons_self .., h⟩
theorem del_plc {s : Nat} : ∀ {T : List Tok}, Ris T → (look s T).isSome = true → T.take (plc s T) ++ T.drop (plc s T + 1) = del s T
  | [], _, h => by simp [look] at h
  | y :: T, hT, h => by
    have hp := List.pairwise_cons.1 hT
    by_cases hy : y.s < s
    · rw [plc, if_pos hy, del, if_neg (by omega)]
      simp only [List.take_succ_cons, List.drop_succ_cons, List.cons_append]
      rw [del_plc hp.2 (by rwa [look, if_neg (by omega)] at h)]
    · have hs : y.s = s := by
        rw [look_has hT] at h
        obtain ⟨x, hx, rfl⟩ := h
        rcases List.mem_cons.1 hx with rfl | hx
        · rfl
        · have := hp.1 x hx; omega
      rw [plc, if_neg hy, del, if_pos hs]
      simp
theorem del_none {s : Nat} : ∀ {T : List Tok}, look s T = none → del s T = T
  | [], _ => rfl
  | y :: T, h => by
    have hn := look_none h y (List.mem_cons_self ..)
    rw [del, if_neg hn, del_none (by rwa [look, if_neg hn] at h)]
theorem put_plc {x : Tok} : ∀ {T : List Tok}, Ris T → T.take (plc x.s T) ++ [x] ++ T.drop (plc x.s T + (if (look x.s T).isSome then 1 else 0)) = put x T
  | [], _ => rfl
  | y :: T, hT => by
    have hp := List.pairwise_cons.1 hT
    by_cases hy : y.s < x.s
    · have el : look x.s (y :: T) = look x.s T := by rw [look, if_neg (by omega)]
      have ep : put x (y :: T) = y :: put x T := by rw [put, if_neg (by omega), if_neg (by omega)]
      rw [plc, if_pos hy, ep, el, ← put_plc hp.2, show plc x.s T + 1 + (if (look x.s T).isSome = true then 1 else 0) = (plc x.s T + (if (look x.s T).isSome = true then 1 else 0)) + 1 by omega]
      simp
    · rw [plc, if_neg hy]
      by_cases hs : x.s = y.s
      · have el : look x.s (y :: T) = some y := by rw [look, if_pos hs.symm]
        have ep : put x (y :: T) = x :: T := by rw [put, if_neg (by omega), if_pos hs]
        rw [el, ep]
        simp
      · have hlt : x.s < y.s := by omega
        have el : look x.s (y :: T) = none := look_less (fun z hz => by
          rcases List.mem_cons.1 hz with rfl | hz
          · exact hlt
          · have := hp.1 z hz; omega)
        have ep : put x (y :: T) = x :: y :: T := by rw [put, if_pos hlt]
        rw [el, ep]
        simp
/- A row of the call's own shows the cells of a part of it. -/
theorem sees_part {w : World} {base g n cap : Nat} {T : List Tok} (h : w.ownsRow base 43 14 (.slice (some ⟨g, 0, none⟩) n cap) n (rcl T)) {i j : Nat} (hij : i + j ≤ n) {o c : Nat} (ho : j = 0 ∨ o = i * 14) :
    Sees w 14 (.slice (some ⟨g, o, none⟩) j c) j (rcl ((T.drop i).take j)) := by
  have hn : T.length = n := by have := h.1; rw [rcl_length] at this; omega
  refine .inr ⟨_, _, rfl, by rw [rcl_length, List.length_take, List.length_drop]; congr 1; omega, fun k u hk => ?_⟩
  have hkl : k < (rcl ((T.drop i).take j)).length := (List.getElem?_eq_some_iff.1 hk).1
  rw [rcl_length, List.length_take, List.length_drop] at hkl
  rcases ho with rfl | rfl
  · omega
  · have hb : g < w.heap.size := (h.lt g rfl).2
    refine ⟨hb, ?_⟩
    rw [add_none]
    have h1 := h.cellAt (i * 14 + k) (by omega)
    (try rw [Nat.zero_add] at h1)
    rw [h1]
    have hq : k / 14 < j ∧ k % 14 < 14 := ⟨by omega, Nat.mod_lt _ (by omega)⟩
    have hk2 : k = k / 14 * 14 + k % 14 := by omega
    have e1 : (rcl ((T.drop i).take j))[k]? = (rcells (T[i + k / 14]'(by omega)))[k % 14]? := by
      conv => lhs; rw [hk2]
      exact flat_get rcells_length (x := T[i + k / 14]'(by omega)) (by rw [List.getElem?_take_of_lt hq.1, List.getElem?_drop, List.getElem?_eq_getElem]) hq.2
    rw [← hk, e1]
    have e2 := flat_get rcells_length (l := T) (i := i + k / 14) (j := k % 14) (x := T[i + k / 14]'(by omega)) (List.getElem?_eq_getElem _) hq.2
    rw [← e2]
    show (T.flatMap rcells)[i * 14 + k]? = _
    congr 1
    omega
end Go.Proofs.Ytciplhpnbpmfeaa.Rgt
