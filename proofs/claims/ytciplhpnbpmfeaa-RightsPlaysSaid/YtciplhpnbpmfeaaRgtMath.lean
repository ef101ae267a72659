/- Tokens by rising serials, in plain lists: looked up, put, revoked. -/
import Derived.Test.YtciplhpnbpmfeaaOwn
namespace Go.Proofs.Ytciplhpnbpmfeaa.Rgt
set_option linter.unusedVariables false
set_option linter.unusedSimpArgs false
structure Tok where
  s : Nat
  r : Int
  k : Nat
structure Ok (x : Tok) : Prop where
  s : x.s < 4294967296
  r : 1 ≤ x.r ∧ x.r ≤ 7
  k : x.k < 18446744073709551616
def Ris (T : List Tok) : Prop := T.Pairwise (fun x y => x.s < y.s)
def look (s : Nat) : List Tok → Option Tok
  | [] => none
  | y :: T => if y.s = s then some y else look s T
def put (x : Tok) : List Tok → List Tok
  | [] => [x]
  | y :: T => if x.s < y.s then x :: y :: T else if x.s = y.s then x :: T else y :: put x T
def del (s : Nat) : List Tok → List Tok
  | [] => []
  | y :: T => if y.s = s then T else y :: del s T
theorem look_mem {s : Nat} {T : List Tok} {x : Tok} (h : look s T = some x) : x ∈ T ∧ x.s = s := by
  induction T with
  | nil => cases h
  | cons y T ih =>
    unfold look at h
    split at h
    · next e => injection h with h; subst h; exact ⟨List.mem_cons_self .., e⟩
    · exact ⟨List.mem_cons_of_mem _ (ih h).1, (ih h).2⟩
theorem look_less {s : Nat} {T : List Tok} (h : ∀ y ∈ T, s < y.s) : look s T = none := by
  induction T with
  | nil => rfl
  | cons y T ih =>
    have h1 := h y (List.mem_cons_self ..)
    unfold look
    rw [if_neg (by omega)]
    exact ih (fun z hz => h z (List.mem_cons_of_mem _ hz))
theorem look_none {s : Nat} {T : List Tok} (h : look s T = none) : ∀ y ∈ T, y.s ≠ s := by
  induction T with
  | nil => intro y hy; cases hy
  | cons y T ih =>
    unfold look at h
    split at h
    · cases h
    · next e =>
      intro z hz
      rcases List.mem_cons.1 hz with rfl | hz
      · exact e
      · exact ih h z hz
theorem look_put (x : Tok) {T : List Tok} (hT : Ris T) (s : Nat) : look s (put x T) = if s = x.s then some x else look s T := by
  induction T with
  | nil =>
    simp only [put, look]
    by_cases h : s = x.s
    · rw [if_pos h.symm, if_pos h]
    · rw [if_neg (fun e => h e.symm), if_neg h]
  | cons y T ih =>
    have hp := List.pairwise_cons.1 hT
    unfold put
    split
    · simp only [look]
      by_cases h : s = x.s
      · rw [if_pos h.symm, if_pos h]
      · rw [if_neg (fun e => h e.symm), if_neg h]
    · next h1 =>
      split
      · next h2 =>
        simp only [look]
        by_cases h : s = x.s
        · rw [if_pos h.symm, if_pos h]
        · rw [if_neg (fun e => h e.symm), if_neg h, if_neg (by omega)]
      · next h2 =>
        simp only [look]
        rw [ih hp.2]
        by_cases h : s = x.s
        · rw [if_neg (by omega), if_pos h, if_pos h]
        · rw [if_neg h, if_neg h]
theorem mem_del {s : Nat} {T : List Tok} {y : Tok} (h : y ∈ del s T) : y ∈ T := by
  induction T with
  | nil => exact h
  | cons z T ih =>
    unfold del at h
    split at h
    · exact List.mem_cons_of_mem _ h
    · rcases List.mem_cons.1 h with rfl | h
      · exact List.mem_cons_self ..
      · exact List.mem_cons_of_mem _ (ih h)
theorem look_del {T : List Tok} (hT : Ris T) (s x : Nat) : look x (del s T) = if x = s then none else look x T := by
  induction T with
  | nil => simp [del, look]
  | cons y T ih =>
    have hp := List.pairwise_cons.1 hT
    unfold del
    split
    · next h1 =>
      by_cases h : x = s
      · rw [if_pos h, look_less (fun z hz => by have := hp.1 z hz; omega)]
      · rw [if_neg h]
        simp only [look]
        rw [if_neg (by omega)]
    · next h1 =>
      simp only [look]
      rw [ih hp.2]
      by_cases h : x = s
      · rw [if_pos h, if_pos h, if_neg (by omega)]
      · rw [if_neg h, if_neg h]
theorem mem_put {x y : Tok} {T : List Tok} (h : y ∈ put x T) : y = x ∨ y ∈ T := by
  induction T with
  | nil => simpa [put] using h
  | cons z T ih =>
    unfold put at h
    split at h
    · rcases List.mem_cons.1 h with rfl | h
      · exact .inl rfl
      · exact .inr h
    · split at h
      · rcases List.mem_cons.1 h with rfl | h
        · exact .inl rfl
        · exact .inr (List.mem_cons_of_mem _ h)
      · rcases List.mem_cons.1 h with rfl | h
        · exact .inr (List.mem_cons_self ..)
        · rcases ih h with h | h
          · exact .inl h
          · exact .inr (List.mem_cons_of_mem _ h)
theorem Ris.put {T : List Tok} (hT : Ris T) (x : Tok) : Ris (put x T) := by
  induction T with
  | nil => simp [Rgt.put, Ris]
  | cons y T ih =>
    have hp := List.pairwise_cons.1 hT
    unfold Rgt.put
    split
    · next h1 =>
      refine List.pairwise_cons.2 ⟨fun z hz => ?_, hT⟩
      rcases List.mem_cons.1 hz with rfl | hz
      · exact h1
      · have := hp.1 z hz; omega
    · split
      · next h2 => exact List.pairwise_cons.2 ⟨fun z hz => by have := hp.1 z hz; omega, hp.2⟩
      · next h1 h2 =>
        refine List.pairwise_cons.2 ⟨fun z hz => ?_, ih hp.2⟩
        rcases mem_put hz with rfl | hz
        · omega
        · exact hp.1 z hz
theorem Ris.del {T : List Tok} (hT : Ris T) (s : Nat) : Ris (del s T) := by
  induction T with
  | nil => exact hT
  | cons y T ih =>
    have hp := List.pairwise_cons.1 hT
    unfold Rgt.del
    split
    · exact hp.2
    · exact List.pairwise_cons.2 ⟨fun z hz => hp.1 z (mem_del hz), ih hp.2⟩
theorem len_put (x : Tok) {T : List Tok} (hT : Ris T) : (put x T).length = if (look x.s T).isSome then T.length else T.length + 1 := by
  induction T with
  | nil => rfl
  | cons y T ih =>
    have hp := List.pairwise_cons.1 hT
    unfold put
    split
    · next h1 =>
      have h2 : look x.s (y :: T) = none := look_less (fun z hz => by
        rcases List.mem_cons.1 hz with rfl | hz
        · exact h1
        · have := hp.1 z hz; omega)
      rw [h2]; rfl
    · split
      · next h2 => simp [look, h2]
      · next h1 h2 =>
        simp only [look, if_neg (fun e : y.s = x.s => h2 e.symm), List.length_cons, ih hp.2]
        split <;> rfl
theorem len_del (s : Nat) (T : List Tok) : (del s T).length + (if (look s T).isSome then 1 else 0) = T.length := by
  induction T with
  | nil => rfl
  | cons y T ih =>
    unfold del look
    split
    · simp
    · simp only [List.length_cons]; omega
def AllOk (T : List Tok) : Prop := ∀ x ∈ T, Ok x
theorem AllOk.put {T : List Tok} (h : AllOk T) {x : Tok} (hx : Ok x) : AllOk (put x T) := fun y hy => by
  rcases mem_put hy with rfl | hy
  · exact hx
  · exact h y hy
theorem AllOk.del {T : List Tok} (h : AllOk T) (s : Nat) : AllOk (del s T) := fun y hy => h y (mem_del hy)
/- What Put tells, and what it makes. -/
def putErr (s : Nat) (r : Int) (T : List Tok) : Int := if r < 1 ∨ 7 < r then 1 else if look s T = none ∧ 100 ≤ T.length then 13 else 0
def putTo (x : Tok) (T : List Tok) : List Tok := if putErr x.s x.r T = 0 then put x T else T
/- What a serial and a secret have. -/
def has (s k : Nat) (T : List Tok) : Int := match look s T with
  | some x => if x.k = k then x.r else 0
  | none => 0
structure Good (T : List Tok) : Prop where
  ris : Ris T
  ok : AllOk T
  len : T.length ≤ 100
theorem Good.nil : Good [] := ⟨List.Pairwise.nil, fun x hx => (by cases hx), (by simp)⟩
theorem Good.putTo {T : List Tok} (h : Good T) {x : Tok} (hs : x.s < 4294967296) (hk : x.k < 18446744073709551616) : Good (putTo x T) := by
  unfold Rgt.putTo
  split
  · next h0 =>
    unfold putErr at h0
    split at h0
    · cases h0
    · next hr =>
      split at h0
      · cases h0
      · next hl =>
        refine ⟨h.ris.put x, h.ok.put ⟨hs, by omega, hk⟩, ?_⟩
        rw [len_put x h.ris]
        have := h.len
        by_cases hn : look x.s T = none
        · rw [hn]
          have : ¬ 100 ≤ T.length := fun h1 => hl ⟨hn, h1⟩
          simp; omega
        · have : (look x.s T).isSome = true := by cases hq : look x.s T with
            | none => exact absurd hq hn
            | some y => rfl
          rw [this]; simp; exact h.len
  · exact h
theorem Good.del {T : List Tok} (h : Good T) (s : Nat) : Good (del s T) := ⟨h.ris.del s, h.ok.del s, by have := len_del s T; have := h.len; omega⟩
theorem look_putTo {T : List Tok} (h : Ris T) (x : Tok) {s : Nat} (hs : s ≠ x.s) : look s (putTo x T) = look s T := by
  unfold putTo
  split
  · rw [look_put x h, if_neg hs]
  · rfl
end Go.Proofs.Ytciplhpnbpmfeaa.Rgt
