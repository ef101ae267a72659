/- The reserve, as plain numbers: sums that stop at one beyond the greatest. -/
namespace Go.Proofs.Ytceooidgghmfbaa.Quo
set_option linter.unusedVariables false
def top : Int := 4611686018427382903
/- One number more. -/
def more1 (s n : Int) : Int := if n < 0 ∨ top - s < n then top + 1 else s + n
def sums (s : Int) (l : List Int) : Int := l.foldl more1 s
def res (l : List Int) (admin : Int) : Int := if top < sums (more1 0 admin) l then 9223372036854775807 else 2 * sums (more1 0 admin) l + 10000
def In (s : Int) : Prop := 0 ≤ s ∧ s ≤ top + 1
theorem in_more {s n : Int} (h : In s) : In (more1 s n) := by
  obtain ⟨h1, h2⟩ := h
  unfold more1 In top at *
  split <;> omega
theorem in_zero : In 0 := by unfold In top; omega
theorem in_sums {s : Int} (h : In s) : ∀ l : List Int, In (sums s l)
  | [] => h
  | n :: l => by
    show In (sums (more1 s n) l)
    exact in_sums (in_more h) l
theorem sums_app (s : Int) (l r : List Int) : sums s (l ++ r) = sums (sums s l) r := by unfold sums; rw [List.foldl_append]
/- Of two numbers that are put on, the order doesn't matter. -/
theorem more_more {s a b : Int} (h : In s) : more1 (more1 s a) b = more1 (more1 s b) a := by
  obtain ⟨h1, h2⟩ := h
  unfold more1 top at *
  repeat' split
  all_goals omega
theorem sums_more {a : Int} : ∀ {l : List Int} {s : Int}, In s → sums (more1 s a) l = more1 (sums s l) a
  | [], s, h => rfl
  | n :: l, s, h => by
    show sums (more1 (more1 s a) n) l = more1 (sums (more1 s n) l) a
    rw [more_more h, sums_more (in_more h)]
theorem sums_back : ∀ {l : List Int} {s : Int}, In s → sums s l.reverse = sums s l
  | [], s, h => rfl
  | n :: l, s, h => by
    rw [List.reverse_cons, sums_app, sums_back h]
    show more1 (sums s l) n = sums (more1 s n) l
    rw [sums_more h]
/- More is never less. -/
theorem more_up {s n : Int} (h : In s) (hn : 0 ≤ n) : s ≤ more1 s n := by
  obtain ⟨h1, h2⟩ := h
  unfold more1 top at *
  split <;> omega
theorem more_mono {s t n m : Int} (hs : In s) (ht : In t) (h : s ≤ t) (hn : 0 ≤ n) (hm : n ≤ m) : more1 s n ≤ more1 t m := by
  obtain ⟨h1, h2⟩ := hs
  obtain ⟨h3, h4⟩ := ht
  unfold more1 top at *
  repeat' split
  all_goals omega
theorem more_mono1 {s t n : Int} (hs : In s) (ht : In t) (h : s ≤ t) : more1 s n ≤ more1 t n := by
  obtain ⟨h1, h2⟩ := hs
  obtain ⟨h3, h4⟩ := ht
  unfold more1 top at *
  repeat' split
  all_goals omega
theorem sums_mono : ∀ {l : List Int} {s t : Int}, In s → In t → s ≤ t → sums s l ≤ sums t l
  | [], s, t, hs, ht, h => h
  | n :: l, s, t, hs, ht, h => sums_mono (l := l) (in_more hs) (in_more ht) (more_mono1 hs ht h)
theorem sums_set {x : Int} : ∀ {l : List Int} {s : Int} {k : Nat} (hk : k < l.length), In s → 0 ≤ l[k] → l[k] ≤ x → sums s l ≤ sums s (l.set k x)
  | [], s, k, hk, _, _, _ => absurd hk (by simp)
  | n :: l, s, 0, hk, h, h1, h2 => by
    show sums (more1 s n) l ≤ sums (more1 s x) l
    exact sums_mono (in_more h) (in_more h) (more_mono h h (Int.le_refl _) h1 h2)
  | n :: l, s, k + 1, hk, h, h1, h2 => by
    show sums (more1 s n) l ≤ sums (more1 s n) (l.set k x)
    exact sums_set (by simpa using hk) (in_more h) (by simpa using h1) (by simpa using h2)
theorem res_mono {s t : Int} (hs : In s) (ht : In t) (h : s ≤ t) : (if top < s then (9223372036854775807 : Int) else 2 * s + 10000) ≤ (if top < t then 9223372036854775807 else 2 * t + 10000) := by
  obtain ⟨h1, h2⟩ := hs
  obtain ⟨h3, h4⟩ := ht
  unfold top at *
  repeat' split
  all_goals omega
theorem res_more (l : List Int) (admin : Int) {m : Int} (hm : 0 ≤ m) : res l admin ≤ res (l ++ [m]) admin := by
  have h1 : In (more1 0 admin) := in_more in_zero
  unfold res
  rw [sums_app]
  exact res_mono (in_sums h1 _) (in_more (in_sums h1 _)) (more_up (in_sums h1 _) hm)
theorem res_back (l : List Int) (admin : Int) : res l.reverse admin = res l admin := by
  unfold res
  rw [sums_back (in_more in_zero)]
theorem res_set (l : List Int) (admin : Int) {k : Nat} {x : Int} (hk : k < l.length) (h0 : 0 ≤ l[k]) (hx : l[k] ≤ x) : res l admin ≤ res (l.set k x) admin := by
  have h1 : In (more1 0 admin) := in_more in_zero
  unfold res
  exact res_mono (in_sums h1 _) (in_sums h1 _) (sums_set hk h1 h0 hx)
theorem sums_snoc (s : Int) (l : List Int) {i : Nat} (h : i < l.length) : sums s (l.take (i + 1)) = more1 (sums s (l.take i)) l[i] := by
  rw [List.take_succ_eq_append_getElem h, sums_app]
  rfl
end Go.Proofs.Ytceooidgghmfbaa.Quo
