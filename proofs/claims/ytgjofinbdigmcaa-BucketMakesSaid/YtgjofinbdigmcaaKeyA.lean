/- In one text: Plain mathematics of the hash of layer 3: what a byte makes of a hash, the hash of a text, and powers of 2 up to 2^30. What each function of layer 3 and of its reference returns, for every text and every number of places: contracts, callees first. Tables of keys as lists of places: where a key lies, an entry laid, a table laid anew, a gap closed in two ways that come to one. A gap in a table is closed: what lies behind it moves back, in the program's way and in the document's, which are one. Tables of keys: an entry put, the table laid anew in more places, a key taken out; what holds of each table that comes of it. The program's table in memory, and contracts of its calls that only look. Contracts of the program's table's calls that only look: home, next, steps, isTight, find. The program's search for a key: where it lies, or would. -/
import Derived.Laws.BitsAllLaws
import Derived.Test.YtgjofinbdigmcaaOwn
import Derived.Test.YtgjofinbdigmcaaProg
import Derived.WalkKit
import Derived.ProofKit
import Derived.Below
import Derived.Outline
import Derived.WalkSpells
import Derived.WalkLawsBesides
import Derived.LoopTactic
import Derived.Lib.Hide
import Derived.Test.YtgjofinbdigmcaaBlk
import Derived.Test.YtgjofinbdigmcaaLate
import Derived.Deep.QuietTactic
import Derived.BigQuiet
namespace Go.Proofs.Ytgjofinbdigmcaa.Fnv
open Go.Proofs.Ytgjofinbdigmcaa.Mem

def stepOf (r : Nat) (z : Int) : Nat := (r ^^^ z.toNat) * 1099511628211 % 18446744073709551616
def come (r : Nat) (zs : List Int) : Nat := zs.foldl stepOf r
/- The hash of a text. -/
def hashOf (s : ByteArray) : Nat := come 14695981039346656037 (strBytes s)
theorem stepOf_lt (r : Nat) (z : Int) : stepOf r z < 18446744073709551616 := Nat.mod_lt _ (by omega)
theorem come_lt {r : Nat} (hr : r < 18446744073709551616) (zs : List Int) : come r zs < 18446744073709551616 := by
  induction zs generalizing r with
  | nil => exact hr
  | cons z zs ih => exact ih (stepOf_lt r z)
theorem foldl_snoc {α β : Type} (f : β → α → β) (r : β) (zs : List α) (z : α) : (zs ++ [z]).foldl f r = f (zs.foldl f r) z := by
  rw [List.foldl_append]
  rfl
theorem come_snoc (r : Nat) (zs : List Int) (z : Int) : come r (zs ++ [z]) = stepOf (come r zs) z := foldl_snoc stepOf r zs z
theorem hashOf_lt (s : ByteArray) : hashOf s < 18446744073709551616 := come_lt (by omega) _
theorem hashOf_nil : hashOf { data := #[] } = 14695981039346656037 := rfl
theorem xor_lt64 {a b : Nat} (ha : a < 18446744073709551616) (hb : b < 18446744073709551616) : a ^^^ b < 18446744073709551616 := Nat.xor_lt_two_pow (n := 64) ha hb
theorem strBytes_take (T : ByteArray) (j : Nat) (h : j < T.size) : (strBytes T).take (j + 1) = (strBytes T).take j ++ [((T[j]).toNat : Int)] := by
  have hl : j < (strBytes T).length := by rw [strBytes_length]; exact h
  rw [List.take_succ_eq_append_getElem hl]
  have e : (strBytes T)[j]'hl = ((T[j]).toNat : Int) := (List.getElem_map (f := fun b : UInt8 => (b.toNat : Int)) (l := T.data.toList) (i := j) (h := hl)).trans rfl
  rw [e]
theorem strBytes_all (T : ByteArray) {j : Nat} (h : ¬ j < T.size) : (strBytes T).take j = strBytes T := List.take_of_length_le (by rw [strBytes_length]; omega)
theorem come_step (r : Nat) (T : ByteArray) {j : Nat} (h : j < T.size) : come r ((strBytes T).take (j + 1)) = (come r ((strBytes T).take j) ^^^ (T[j]).toNat) * 1099511628211 % 18446744073709551616 := by
  rw [strBytes_take T j h, come_snoc]
  rfl
/- A power of 2 that may be places. -/
def Pow (p : Int) : Prop := ∃ k : Nat, k ≤ 30 ∧ p = ((2 ^ k : Nat) : Int)
theorem pow_le {k : Nat} (h : k ≤ 30) : 1 ≤ 2 ^ k ∧ 2 ^ k ≤ 1073741824 :=
  ⟨Nat.one_le_two_pow, Nat.le_trans (Nat.pow_le_pow_right (by omega) h) (by decide)⟩
theorem pow_and (k : Nat) : (2 ^ k) &&& (2 ^ k - 1) = 0 := by
  rw [Nat.and_two_pow_sub_one_eq_mod, Nat.mod_self]
theorem pow_of_and {n : Nat} (h0 : n ≠ 0) (hn : n ≤ 1073741824) (h : n &&& (n - 1) = 0) : Pow (n : Int) := by
  obtain ⟨k, rfl⟩ := (Nat.and_sub_one_eq_zero_iff_isPowerOfTwo h0).1 h
  refine ⟨k, ?_, rfl⟩
  have : 2 ^ k ≤ 2 ^ 30 := hn
  exact (Nat.pow_le_pow_iff_right (by omega)).1 this
theorem ofInt_i64 (a : Nat) (ha : a < 9223372036854775808) : (BitVec.ofInt 64 (a : Int)).toNat = a := by
  rw [BitVec.ofInt_natCast, BitVec.toNat_ofNat]; exact Nat.mod_eq_of_lt (by omega)
theorem i64_and_nat (a b : Nat) (ha : a < 9223372036854775808) (hb : b < 9223372036854775808) : bits .and .i64 (a : Int) (b : Int) = ((a &&& b : Nat) : Int) := by
  have hx : a &&& b < 2 ^ 63 := Nat.and_lt_two_pow _ (by omega)
  show IntKind.i64.wrap ((BitVec.ofInt 64 (a : Int) &&& BitVec.ofInt 64 (b : Int)).toNat : Int) = _
  rw [BitVec.toNat_and, ofInt_i64 a ha, ofInt_i64 b hb]
  simp [IntKind.wrap, IntKind.signed, IntKind.bits]
  omega
end Go.Proofs.Ytgjofinbdigmcaa.Fnv
namespace Go.Proofs.Ytgjofinbdigmcaa.Fnv
open Go.Proofs.Ytgjofinbdigmcaa.Mem
open Go.ChangeShapes Go.WideShapes Go.ChangeAt Go.RowKit
set_option linter.unusedVariables false

theorem ret_int {k : IntKind} {a b : Int} (h : a = b) : Ending.returned (.int k a) = .returned (.int k b) := by rw [h]
theorem val_int {k : IntKind} {a b : Int} (h : a = b) : Value.int k a = .int k b := by rw [h]
theorem mul_step {R V : Nat} {x : UInt8} (hR : R < 18446744073709551616) (h : V = (R ^^^ x.toNat) * 1099511628211 % 18446744073709551616) : IntKind.u64.wrap (bits .xor .u64 (R : Int) (x.toNat : Int) * 1099511628211) = (V : Int) := by
  have hc := x.toNat_lt
  rw [u64_xor_nat R x.toNat hR (by omega), IntKind.wrap_u64, h]
  omega

set_option maxRecDepth 100000 in
set_option maxHeartbeats 400000 in
theorem hash_any (s : ByteArray) (hs : s.size ≤ 140737488355328) (w : World) :
    Calls Try.prog 72 #[.string s] w fun e w' => e = .returned (.int .u64 ((hashOf s : Nat) : Int)) ∧ w = w' := by
  go_enter Try.func72, Try.ntmps72
  go_wp2
  go_loop [3, 7] (fun r i => ∃ (k R : Nat), k ≤ s.size ∧ i = .int .i64 (k : Int) ∧ r = .int .u64 (R : Int) ∧ R = come 14695981039346656037 ((strBytes s).take k)) (fun _ i => s.size - (intOf i).toNat)
  case atStart => exact ⟨0, 14695981039346656037, by omega, rfl, rfl, rfl⟩
  case round =>
    obtain ⟨k, R, hk, rfl, rfl, hR⟩ := hrel
    have hlt : R < 18446744073709551616 := by rw [hR]; exact come_lt (by omega) _
    have HR := Lib.hid hR
    clear hR
    by_cases hk8 : k < s.size
    · have hc := (s[k]).toNat_lt
      have hstep := come_step 14695981039346656037 s hk8
      rw [← HR.out] at hstep
      obtain ⟨V, hV⟩ : ∃ V, V = come 14695981039346656037 ((strBytes s).take (k + 1)) := ⟨_, rfl⟩
      rw [← hV] at hstep
      have HV := Lib.hid hV
      have HM := Lib.hid (mul_step (R := R) (V := V) (x := s[k]) hlt hstep)
      clear hstep hV
      go_wp2
      go_round
      case rel => 
        refine ⟨k + 1, V, by omega, by go_num, ?_, HV.out⟩
        have hm := HM.out
        rw [hm]
      case measure => simp [intOf]; omega
    · have HE := Lib.hid (strBytes_all s hk8)
      go_wp2
      go_ret
      refine ⟨ret_int ?_, rfl⟩
      rw [HR.out, HE.out]
      rfl
theorem may_yes {p : Int} (hp : Pow p) (w : World) :
    Calls Try.prog 71 #[.int .i64 p] w fun e w' => e = .returned (.bool true) ∧ w = w' := by
  obtain ⟨k, hk, rfl⟩ := hp
  have h1 := pow_le hk
  have h2 := pow_and k
  obtain ⟨P, hP⟩ : ∃ P, P = 2 ^ k := ⟨_, rfl⟩
  rw [← hP] at h1 h2 ⊢
  clear hP
  have hb := i64_and_nat P (P - 1) (by omega) (by omega)
  rw [h2, show ((P - 1 : Nat) : Int) = (P : Int) - 1 by omega] at hb
  clear h2
  go_enter Try.func71, Try.ntmps71
  go_wp2
  go_ret
  exact ⟨rfl, rfl⟩
theorem may_no {p : Int} (h0 : -9223372036854775808 ≤ p) (h9 : p ≤ 9223372036854775807) (hp : ¬ Pow p) (w : World) :
    Calls Try.prog 71 #[.int .i64 p] w fun e w' => e = .returned (.bool false) ∧ w = w' := by
  by_cases h1 : 1 ≤ p ∧ p ≤ 1073741824
  · obtain ⟨P, rfl⟩ : ∃ P : Nat, p = (P : Int) := ⟨p.toNat, by omega⟩
    have h2 : (P &&& (P - 1)) ≠ 0 := fun h => hp (pow_of_and (by omega) (by omega) h)
    have hb := i64_and_nat P (P - 1) (by omega) (by omega)
    rw [show ((P - 1 : Nat) : Int) = (P : Int) - 1 by omega] at hb
    obtain ⟨X, hX⟩ : ∃ X, X = (P &&& (P - 1)) := ⟨_, rfl⟩
    rw [← hX] at hb h2
    clear hX hp
    have h3 : ((X : Int) == 0) = false := by simp; omega
    go_enter Try.func71, Try.ntmps71
    go_wp2
    go_ret
    exact ⟨rfl, rfl⟩
  · clear hp
    by_cases h2 : 1 ≤ p
    · have h3 : 1073741824 < p := by omega
      go_enter Try.func71, Try.ntmps71
      go_wp2
      go_ret
      exact ⟨rfl, rfl⟩
    · go_enter Try.func71, Try.ntmps71
      go_wp2
      go_ret
      exact ⟨rfl, rfl⟩

/- The home of a text among p places. -/
def homeOf (s : ByteArray) (p : Int) : Int := (hashOf s : Int) % p
theorem home_and {h P k : Nat} (hh : h < 18446744073709551616) (hk : k ≤ 30) (hP : P = 2 ^ k) : bits .and .u64 (h : Int) ((P : Int) - 1) = (h : Int) % (P : Int) := by
  have h1 := pow_le hk
  rw [← hP] at h1
  have hb := u64_and_nat h (P - 1) hh (by omega)
  rw [show ((P - 1 : Nat) : Int) = (P : Int) - 1 by omega] at hb
  rw [hb, hP, Nat.and_two_pow_sub_one_eq_mod]
  simp
theorem home_yes (s : ByteArray) (hs : s.size ≤ 140737488355328) {p : Int} (hp : Pow p) (w : World) :
    Calls Try.prog 65 #[.string s, .int .i64 p] w fun e w' => e = .returned (.int .i64 (homeOf s p)) ∧ w = w' := by
  have hp' := Lib.hid hp
  obtain ⟨k, hk, hpk⟩ := hp
  have h1 := pow_le hk
  obtain ⟨P, hP⟩ : ∃ P, P = 2 ^ k := ⟨_, rfl⟩
  rw [← hP] at h1 hpk
  subst hpk
  have hb := home_and (hashOf_lt s) hk hP
  clear hP
  have hm : 0 ≤ (hashOf s : Int) % (P : Int) ∧ (hashOf s : Int) % (P : Int) < (P : Int) := ⟨Int.emod_nonneg _ (by omega), Int.emod_lt_of_pos _ (by omega)⟩
  unfold homeOf
  obtain ⟨M, hM⟩ : ∃ M, M = (hashOf s : Int) % (P : Int) := ⟨_, rfl⟩
  rw [← hM] at hb hm ⊢
  clear hM
  go_enter Try.func65, Try.ntmps65
  go_wp2_with fail
  refine (may_yes hp'.out w).mono ?_
  rintro e w' ⟨rfl, rfl⟩
  go_wp2_with fail
  refine (hash_any s hs w).mono ?_
  rintro e w' ⟨rfl, rfl⟩
  obtain ⟨H, hH⟩ : ∃ H, H = hashOf s := ⟨_, rfl⟩
  rw [← hH] at hb ⊢
  clear hH
  go_wp2_with fail
  go_ret
  exact ⟨rfl, rfl⟩
theorem home_no (s : ByteArray) {p : Int} (h0 : -9223372036854775808 ≤ p) (h9 : p ≤ 9223372036854775807) (hp : ¬ Pow p) (w : World) :
    Calls Try.prog 65 #[.string s, .int .i64 p] w fun e w' => e = .returned (.int .i64 0) ∧ w = w' := by
  have hp' := Lib.hid hp
  clear hp
  go_enter Try.func65, Try.ntmps65
  go_wp2_with fail
  refine (may_no h0 h9 hp'.out w).mono ?_
  rintro e w' ⟨rfl, rfl⟩
  go_wp2_with fail
  go_ret
  exact ⟨rfl, rfl⟩
end Go.Proofs.Ytgjofinbdigmcaa.Fnv
namespace Go.Proofs.Ytgjofinbdigmcaa.Key
open Go.Proofs.Ytgjofinbdigmcaa.Mem Go.Proofs.Ytgjofinbdigmcaa.Fnv
set_option linter.unusedVariables false

structure Ent where
  key : ByteArray
  seg : Int
  at_ : Int
  len : Int
  ver : Nat
  exp : Nat
  size : Int
deriving DecidableEq

abbrev Tab := List (Option Ent)
def hm (n : Nat) (s : ByteArray) : Nat := hashOf s % n
def look (T : Tab) (i : Nat) : Option Ent := T.getD i none
/- Whether a search for s ends at place i. -/
def stops (T : Tab) (s : ByteArray) (i : Nat) : Bool := match look T i with | none => true | some e => decide (e.key = s)
def dist (T : Tab) (s : ByteArray) : Nat := (List.range T.length).findIdx (fun d => stops T s ((hm T.length s + d) % T.length))
def find (T : Tab) (s : ByteArray) : Nat := (hm T.length s + dist T s) % T.length
def free (T : Tab) : Prop := ∃ i, i < T.length ∧ look T i = none
def WF (T : Tab) : Prop := ∀ j e, look T j = some e → find T e.key = j
def cnt (T : Tab) : Nat := T.countP Option.isSome
def lay (T : Tab) (e : Ent) : Tab := T.set (find T e.key) (some e)

theorem mod_lt {n : Nat} (h : 0 < n) (x : Nat) : x % n < n := Nat.mod_lt _ h
/- Two numbers less than n apart that are one modulo n are one. -/
theorem mod_one {n x y : Nat} (h : x % n = y % n) (h1 : x ≤ y) (h2 : y < x + n) : x = y := by
  have e1 := Nat.div_add_mod x n
  have e2 := Nat.div_add_mod y n
  rcases Nat.lt_or_ge (x / n) (y / n) with h3 | h3
  · have h4 := Nat.mul_le_mul_left n h3
    rw [Nat.mul_succ] at h4
    omega
  · have h4 := Nat.mul_le_mul_left n h3
    omega
theorem look_lt {T : Tab} {j : Nat} {e : Ent} (h : look T j = some e) : j < T.length := by
  rcases Nat.lt_or_ge j T.length with h1 | h1
  · exact h1
  · simp [look, List.getD, List.getElem?_eq_none h1] at h
theorem look_set {T : Tab} {i j : Nat} {o : Option Ent} (hi : i < T.length) : look (T.set i o) j = if i = j then o else look T j := by
  simp only [look, List.getD, List.getElem?_set]
  by_cases h : i = j
  · subst h; simp [hi]
  · simp [h]
theorem look_set_same {T : Tab} {i : Nat} {o : Option Ent} (hi : i < T.length) : look (T.set i o) i = o := by rw [look_set hi, if_pos rfl]
theorem look_set_ne {T : Tab} {i j : Nat} {o : Option Ent} (h : i ≠ j) : look (T.set i o) j = look T j := by
  simp only [look, List.getD, List.getElem?_set, if_neg h]
theorem look_mem {T : Tab} {e : Ent} : some e ∈ T ↔ ∃ j, look T j = some e := by
  constructor
  · intro h
    obtain ⟨j, hj, he⟩ := List.getElem_of_mem h
    exact ⟨j, by simp [look, List.getD, hj, he]⟩
  · rintro ⟨j, h⟩
    have hj := look_lt h
    simp [look, List.getD, hj] at h
    exact h ▸ List.getElem_mem hj
/- Where the search ends. -/
theorem dist_lt {T : Tab} {s : ByteArray} (h : ∃ d, d < T.length ∧ stops T s ((hm T.length s + d) % T.length) = true) : dist T s < T.length := by
  have := List.findIdx_lt_length_of_exists (xs := List.range T.length) (p := fun d => stops T s ((hm T.length s + d) % T.length)) (by
    obtain ⟨d, h1, h2⟩ := h
    exact ⟨d, List.mem_range.2 h1, h2⟩)
  simpa [dist] using this
theorem dist_stops {T : Tab} {s : ByteArray} (h : dist T s < T.length) : stops T s (find T s) = true := by
  have h1 : (List.range T.length).findIdx (fun d => stops T s ((hm T.length s + d) % T.length)) < (List.range T.length).length := by simpa [dist] using h
  have := List.findIdx_getElem (w := h1)
  simpa [find, dist] using this
theorem dist_before {T : Tab} {s : ByteArray} {d : Nat} (h : d < dist T s) : stops T s ((hm T.length s + d) % T.length) = false := by
  have h1 : d < (List.range T.length).length := by
    have := List.findIdx_le_length (xs := List.range T.length) (p := fun d => stops T s ((hm T.length s + d) % T.length))
    exact Nat.lt_of_lt_of_le h this
  have := List.not_of_lt_findIdx (p := fun d => stops T s ((hm T.length s + d) % T.length)) (xs := List.range T.length) (i := d) h
  simpa using this
theorem dist_eq {T : Tab} {s : ByteArray} {d : Nat} (hd : d < T.length) (hs : stops T s ((hm T.length s + d) % T.length) = true) (hb : ∀ x, x < d → stops T s ((hm T.length s + x) % T.length) = false) : dist T s = d := by
  have h1 := dist_lt ⟨d, hd, hs⟩
  rcases Nat.lt_trichotomy (dist T s) d with h | h | h
  · have := hb _ h
    have h2 := dist_stops h1
    rw [find, this] at h2
    cases h2
  · exact h
  · have := dist_before h
    rw [hs] at this
    cases this
theorem find_eq {T : Tab} {s : ByteArray} {d : Nat} (hd : d < T.length) (hs : stops T s ((hm T.length s + d) % T.length) = true) (hb : ∀ x, x < d → stops T s ((hm T.length s + x) % T.length) = false) : find T s = (hm T.length s + d) % T.length := by
  rw [find, dist_eq hd hs hb]
/- Each place is so many behind a home. -/
theorem some_dist {n h j : Nat} (hj : j < n) : ∃ d, d < n ∧ (h + d) % n = j := by
  refine ⟨(j + n - h % n) % n, Nat.mod_lt _ (by omega), ?_⟩
  have h1 := Nat.mod_lt h (show 0 < n by omega)
  rw [Nat.add_mod_mod, ← Nat.mod_add_mod, show h % n + (j + n - h % n) = j + n by omega, Nat.add_mod_right, Nat.mod_eq_of_lt hj]
theorem stops_free {T : Tab} {s : ByteArray} {i : Nat} (h : look T i = none) : stops T s i = true := by simp [stops, h]
theorem dist_free {T : Tab} (h : free T) (s : ByteArray) : dist T s < T.length := by
  obtain ⟨i, hi, hl⟩ := h
  obtain ⟨d, hd, he⟩ := some_dist (h := hm T.length s) hi
  exact dist_lt ⟨d, hd, by rw [he]; exact stops_free hl⟩
theorem find_lt {T : Tab} (h : 0 < T.length) (s : ByteArray) : find T s < T.length := Nat.mod_lt _ h
theorem find_stops {T : Tab} (h : free T) (s : ByteArray) : stops T s (find T s) = true := dist_stops (dist_free h s)
theorem find_key {T : Tab} (h : free T) {s : ByteArray} {e : Ent} (he : look T (find T s) = some e) : e.key = s := by
  have := find_stops h s
  simpa [stops, he] using this
theorem stops_key {T : Tab} {s : ByteArray} {i : Nat} {e : Ent} (h : look T i = some e) : stops T s i = decide (e.key = s) := by
  simp only [stops, h]
theorem stops_set_ne {T : Tab} {s : ByteArray} {i j : Nat} {o : Option Ent} (h : i ≠ j) : stops (T.set i o) s j = stops T s j := by simp only [stops, look_set_ne h]
theorem wf_dist {T : Tab} (h : WF T) {j : Nat} {e : Ent} (he : look T j = some e) : dist T e.key < T.length := by
  have hj := look_lt he
  obtain ⟨d, hd, hp⟩ := some_dist (h := hm T.length e.key) hj
  exact dist_lt ⟨d, hd, by rw [hp, stops_key he]; simp⟩
/- An entry is laid. -/
theorem wf_lay {T : Tab} (hw : WF T) (hf : free T) (e : Ent) : WF (lay T e) := by
  intro j f hj
  have h0 : 0 < T.length := by obtain ⟨i, hi, _⟩ := hf; omega
  have hl : (lay T e).length = T.length := by simp [lay]
  have hs : find T e.key < T.length := find_lt h0 _
  by_cases hje : find T e.key = j
  · rw [lay, ← hje, look_set_same hs] at hj
    injection hj with hj
    subst hj
    rw [← hje]
    have hd := dist_free hf e.key
    have := find_eq (T := lay T e) (s := e.key) (d := dist T e.key) (by rw [hl]; exact hd) ?_ ?_
    · rw [this, hl]; rfl
    · rw [hl]
      show stops (lay T e) e.key (find T e.key) = true
      rw [lay, stops_key (look_set_same hs)]
      simp
    · intro x hx
      rw [hl]
      have h1 := dist_before hx
      rw [lay, stops_set_ne]
      · exact h1
      · intro h2
        rw [← h2, dist_stops hd] at h1
        cases h1
  · rw [lay, look_set_ne hje] at hj
    have hwj := hw j f hj
    have hd := wf_dist hw hj
    have := find_eq (T := lay T e) (s := f.key) (d := dist T f.key) (by rw [hl]; exact hd) ?_ ?_
    · rw [this, hl, ← hwj]; rfl
    · rw [hl]
      show stops (lay T e) f.key (find T f.key) = true
      rw [hwj, lay, stops_set_ne hje, stops_key hj]
      simp
    · intro x hx
      rw [hl]
      have h1 := dist_before hx
      by_cases hp : find T e.key = (hm T.length f.key + x) % T.length
      · rw [← hp, lay, stops_key (look_set_same hs)]
        by_cases hk : e.key = f.key
        · rw [hk, hwj] at hje
          exact absurd rfl hje
        · simp [hk]
      · rw [lay, stops_set_ne hp]
        exact h1
theorem lay_length (T : Tab) (e : Ent) : (lay T e).length = T.length := by simp [lay]
theorem look_one {T : Tab} (hw : WF T) {i j : Nat} {e f : Ent} (hi : look T i = some e) (hj : look T j = some f) (h : e.key = f.key) : i = j := by
  rw [← hw i e hi, ← hw j f hj, h]
/- What a key is told. -/
def ask (T : Tab) (s : ByteArray) : Option Ent := look T (find T s)
theorem ask_iff {T : Tab} (hw : WF T) (hf : free T) {s : ByteArray} {e : Ent} : ask T s = some e ↔ some e ∈ T ∧ e.key = s := by
  constructor
  · intro h
    exact ⟨look_mem.2 ⟨_, h⟩, find_key hf h⟩
  · rintro ⟨h1, rfl⟩
    obtain ⟨j, hj⟩ := look_mem.1 h1
    rw [ask, hw j e hj, hj]
theorem mem_lay {T : Tab} (hw : WF T) (hf : free T) {e f : Ent} : some f ∈ lay T e ↔ f = e ∨ (some f ∈ T ∧ f.key ≠ e.key) := by
  have h0 : 0 < T.length := by obtain ⟨i, hi, _⟩ := hf; omega
  have hs : find T e.key < T.length := find_lt h0 _
  rw [look_mem]
  constructor
  · rintro ⟨j, hj⟩
    by_cases hje : find T e.key = j
    · rw [lay, hje, look_set_same (hje ▸ hs)] at hj
      injection hj with hj
      exact .inl hj.symm
    · rw [lay, look_set_ne hje] at hj
      refine .inr ⟨look_mem.2 ⟨j, hj⟩, fun hk => hje ?_⟩
      rw [← hk]
      exact hw j f hj
  · rintro (rfl | ⟨h1, hk⟩)
    · exact ⟨_, look_set_same hs⟩
    · obtain ⟨j, hj⟩ := look_mem.1 h1
      refine ⟨j, ?_⟩
      rw [lay, look_set_ne]
      · exact hj
      · intro h2
        rw [← h2] at hj
        exact hk (find_key hf hj)
theorem ask_lay {T : Tab} {e : Ent} (hw : WF T) (hf : free T) (hf' : free (lay T e)) {s : ByteArray} : ask (lay T e) s = if s = e.key then some e else ask T s := by
  apply Option.ext
  intro f
  rw [ask_iff (wf_lay hw hf e) hf', mem_lay hw hf]
  by_cases hs : s = e.key
  · rw [if_pos hs]
    subst hs
    constructor
    · rintro ⟨rfl | ⟨_, h1⟩, h2⟩
      · rfl
      · exact absurd h2 h1
    · rintro h
      injection h with h
      exact ⟨.inl h.symm, by rw [h]⟩
  · rw [if_neg hs, ask_iff hw hf]
    constructor
    · rintro ⟨rfl | ⟨h1, _⟩, h2⟩
      · exact absurd h2.symm hs
      · exact ⟨h1, h2⟩
    · rintro ⟨h1, h2⟩
      exact ⟨.inr ⟨h1, fun h => hs (h2.symm.trans h)⟩, h2⟩
/- How many there are. -/
theorem cnt_set {T : Tab} {i : Nat} (hi : i < T.length) (o : Option Ent) : cnt (T.set i o) + (if (look T i).isSome then 1 else 0) = cnt T + (if o.isSome then 1 else 0) := by
  have h1 : look T i = T[i] := by simp [look, List.getD, hi]
  have h2 := List.countP_set (p := Option.isSome) (l := T) (a := o) hi
  have h3 : (if (T[i]).isSome = true then 1 else 0) ≤ T.countP Option.isSome := by
    split
    · rename_i h
      exact List.countP_pos_iff.2 ⟨_, List.getElem_mem hi, h⟩
    · omega
  rw [h1]
  unfold cnt
  omega
theorem cnt_le (T : Tab) : cnt T ≤ T.length := List.countP_le_length
theorem free_of_cnt {T : Tab} (h : cnt T < T.length) : free T := by
  apply Classical.byContradiction
  intro hn
  have : ∀ o ∈ T, o.isSome = true := by
    intro o ho
    obtain ⟨j, hj, rfl⟩ := List.getElem_of_mem ho
    apply Classical.byContradiction
    intro h1
    refine hn ⟨j, hj, ?_⟩
    simp [look, List.getD, hj]
    simpa using h1
  have := List.countP_eq_length.2 this
  unfold cnt at h
  omega
theorem cnt_new (n : Nat) : cnt (List.replicate n none) = 0 := by simp [cnt, List.countP_replicate]
theorem look_new (n i : Nat) : look (List.replicate n none) i = none := by
  simp only [look, List.getD, List.getElem?_replicate]
  split <;> rfl
theorem wf_new (n : Nat) : WF (List.replicate n none) := by
  intro j e h
  rw [look_new] at h
  cases h
theorem cnt_lay {T : Tab} (hf : free T) (e : Ent) : cnt (lay T e) = cnt T + (if (ask T e.key).isSome then 0 else 1) := by
  have h0 : 0 < T.length := by obtain ⟨i, hi, _⟩ := hf; omega
  have := cnt_set (find_lt h0 e.key) (some e)
  simp only [Option.isSome_some, if_true] at this
  unfold ask lay
  split at this <;> rename_i h
  · simp only [h, if_true]; omega
  · rw [if_neg h]; omega
end Go.Proofs.Ytgjofinbdigmcaa.Key
namespace Go.Proofs.Ytgjofinbdigmcaa.Key
open Go.Proofs.Ytgjofinbdigmcaa.Mem Go.Proofs.Ytgjofinbdigmcaa.Fnv
set_option linter.unusedVariables false

def pl (n a x : Nat) : Nat := (a + x) % n
def back (n : Nat) (e : Ent) (j : Nat) : Nat := (j + n - hm n e.key) % n
theorem pl_lt {n a x : Nat} (h : 0 < n) : pl n a x < n := Nat.mod_lt _ h
theorem pl_add (n a x : Nat) : pl n a (x + n) = pl n a x := by unfold pl; rw [← Nat.add_assoc, Nat.add_mod_right]
theorem pl_ne {n a x y : Nat} (h1 : x < y) (h2 : y < x + n) : pl n a x ≠ pl n a y := by
  intro h
  have := mod_one (n := n) h (by omega) (by omega)
  omega
theorem pl_next (n a x : Nat) : (pl n a x + 1) % n = pl n a (x + 1) := by
  unfold pl
  rw [← Nat.add_assoc]
  exact Nat.mod_add_mod _ _ _
theorem back_lt {n : Nat} (h : 0 < n) (e : Ent) (j : Nat) : back n e j < n := Nat.mod_lt _ h
theorem hm_lt {n : Nat} (h : 0 < n) (s : ByteArray) : hm n s < n := Nat.mod_lt _ h
theorem home_back {n j : Nat} {e : Ent} (hj : j < n) : (hm n e.key + back n e j) % n = j := by
  have h1 := hm_lt (show 0 < n by omega) e.key
  unfold back
  rw [Nat.add_mod_mod, show hm n e.key + (j + n - hm n e.key) = j + n by omega, Nat.add_mod_right, Nat.mod_eq_of_lt hj]
theorem back_path {n a o t : Nat} {e : Ent} (hn : 0 < n) (ht : t ≤ back n e (pl n a o)) : pl n a (o + n - t) = (hm n e.key + (back n e (pl n a o) - t)) % n := by
  have h1 := home_back (e := e) (pl_lt (a := a) (x := o) hn)
  have hb := back_lt hn e (pl n a o)
  generalize back n e (pl n a o) = B at *
  unfold pl at h1 ⊢
  -- both, t more, are one
  have h2 : (a + (o + n - t) + t) % n = (hm n e.key + (B - t) + t) % n := by
    rw [show a + (o + n - t) + t = a + o + n by omega, show hm n e.key + (B - t) + t = hm n e.key + B by omega, Nat.add_mod_right, h1]
  have h3 : ((a + (o + n - t)) % n + t) % n = ((hm n e.key + (B - t)) % n + t) % n := by rw [Nat.mod_add_mod, Nat.mod_add_mod]; exact h2
  have h4 := Nat.mod_lt (a + (o + n - t)) hn
  have h5 := Nat.mod_lt (hm n e.key + (B - t)) hn
  generalize (a + (o + n - t)) % n = x at *
  generalize (hm n e.key + (B - t)) % n = y at *
  rcases Nat.le_total x y with h | h
  · have := mod_one h3 (by omega) (by omega); omega
  · have := mod_one h3.symm (by omega) (by omega); omega
theorem some_pl {n a j : Nat} (hj : j < n) : ∃ o, o < n ∧ pl n a o = j := some_dist (h := a) hj
theorem find_back {T : Tab} {a o : Nat} {e : Ent} (hl : look T (pl T.length a o) = some e) (h : ∀ t, 1 ≤ t → t ≤ back T.length e (pl T.length a o) → stops T e.key (pl T.length a (o + T.length - t)) = false) : find T e.key = pl T.length a o := by
  have hj := look_lt hl
  have hn : 0 < T.length := by omega
  have h1 := home_back (e := e) hj
  rw [← h1]
  refine find_eq (back_lt hn _ _) (by rw [h1, stops_key hl]; simp) (fun x hx => ?_)
  have h2 := h (back T.length e (pl T.length a o) - x) (by omega) (by omega)
  rw [back_path (e := e) hn (by omega)] at h2
  rw [show back T.length e (pl T.length a o) - (back T.length e (pl T.length a o) - x) = x by omega] at h2
  exact h2
theorem wf_back {T : Tab} (hw : WF T) {a o : Nat} {e : Ent} (hl : look T (pl T.length a o) = some e) : ∀ t, 1 ≤ t → t ≤ back T.length e (pl T.length a o) → stops T e.key (pl T.length a (o + T.length - t)) = false := by
  intro t h1 h2
  have hj := look_lt hl
  have hn : 0 < T.length := by omega
  have hd := wf_dist hw hl
  have hf := hw _ e hl
  have hb := home_back (e := e) hj
  have hbl := back_lt hn e (pl T.length a o)
  have e1 : dist T e.key = back T.length e (pl T.length a o) := by
    have h3 : (hm T.length e.key + dist T e.key) % T.length = (hm T.length e.key + back T.length e (pl T.length a o)) % T.length := by
      rw [hb]; exact hf
    rcases Nat.le_total (dist T e.key) (back T.length e (pl T.length a o)) with h | h
    · have := mod_one h3 (by omega) (by omega); omega
    · have := mod_one h3.symm (by omega) (by omega); omega
  rw [back_path hn h2]
  exact dist_before (by omega)
/- There is a gap at a + g; what lies from a + c on, up to a free place, may have to move into it. -/
structure Gap (T : Tab) (a g c Q : Nat) : Prop where
  gc : g < c
  cq : c ≤ Q
  qn : Q < T.length
  hg : look T (pl T.length a g) = none
  hq : look T (pl T.length a Q) = none
  path : ∀ o e, o < T.length → look T (pl T.length a o) = some e → ∀ t, 1 ≤ t → t ≤ back T.length e (pl T.length a o) → stops T e.key (pl T.length a (o + T.length - t)) = false ∨ (pl T.length a (o + T.length - t) = pl T.length a g ∧ c ≤ o)
def moved (T : Tab) (n a g c : Nat) (e : Ent) : Tab := (T.set (pl n a c) none).set (pl n a g) (some e)
theorem Gap.one {T : Tab} {a g c Q o1 o2 : Nat} {e f : Ent} (G : Gap T a g c Q) (h1 : o1 < T.length) (h2 : o2 < T.length) (hl1 : look T (pl T.length a o1) = some e) (hl2 : look T (pl T.length a o2) = some f) (hk : e.key = f.key) : o1 = o2 := by
  have hn : 0 < T.length := by omega
  have key : ∀ (x y : Nat) (u v : Ent), x < T.length → y < T.length → look T (pl T.length a x) = some u → look T (pl T.length a y) = some v → u.key = v.key → ¬ back T.length u (pl T.length a x) < back T.length v (pl T.length a y) := by
    intro x y u v hx hy hu hv huv hlt
    have hp := back_path (a := a) (o := y) (t := back T.length v (pl T.length a y) - back T.length u (pl T.length a x)) (e := v) hn (by omega)
    rw [show back T.length v (pl T.length a y) - (back T.length v (pl T.length a y) - back T.length u (pl T.length a x)) = back T.length u (pl T.length a x) by omega, ← huv, home_back (e := u) (pl_lt hn)] at hp
    rcases G.path y v hy hv (back T.length v (pl T.length a y) - back T.length u (pl T.length a x)) (by omega) (Nat.sub_le _ _) with h | ⟨h, _⟩
    · rw [hp, stops_key hu, huv] at h
      simp at h
    · rw [hp] at h
      rw [h, G.hg] at hu
      cases hu
  have e1 := key o1 o2 e f h1 h2 hl1 hl2 hk
  have e2 := key o2 o1 f e h2 h1 hl2 hl1 hk.symm
  have e3 : back T.length e (pl T.length a o1) = back T.length f (pl T.length a o2) := by omega
  have e4 := home_back (e := e) (pl_lt (a := a) (x := o1) hn)
  have e5 := home_back (e := f) (pl_lt (a := a) (x := o2) hn)
  rw [← hk, ← e3, e4] at e5
  rcases Nat.lt_trichotomy o1 o2 with h | h | h
  · exact absurd e5 (pl_ne h (by omega))
  · exact h
  · exact absurd e5.symm (pl_ne h (by omega))
/- What lies there stays. -/
theorem Gap.stay {T : Tab} {a g c Q : Nat} {e : Ent} (G : Gap T a g c Q) (he : look T (pl T.length a c) = some e) (hb : ¬ c - g ≤ back T.length e (pl T.length a c)) : Gap T a g (c + 1) Q := by
  obtain ⟨hgc, hcq, hqn, hg, hq, hp⟩ := G
  have hne : c ≠ Q := by rintro rfl; rw [hq] at he; cases he
  refine ⟨by omega, by omega, hqn, hg, hq, fun o f ho hf t h1 h2 => ?_⟩
  rcases hp o f ho hf t h1 h2 with h | ⟨h, h3⟩
  · exact .inl h
  · by_cases hoc : o = c
    · subst hoc
      rw [he] at hf
      injection hf with hf
      subst hf
      have hbl := back_lt (n := T.length) (by omega) e (pl T.length a o)
      refine absurd h.symm ?_
      rw [← pl_add T.length a g]
      exact pl_ne (by omega) (by omega)
    · exact .inr ⟨h, by omega⟩
theorem Gap.stay_lay {T : Tab} {a g c Q : Nat} {e : Ent} (G : Gap T a g c Q) (he : look T (pl T.length a c) = some e) (hb : ¬ c - g ≤ back T.length e (pl T.length a c)) : lay (T.set (pl T.length a c) none) e = T := by
  have hj := look_lt he
  have hn : 0 < T.length := by omega
  have h1 := home_back (e := e) hj
  have hl : (T.set (pl T.length a c) none).length = T.length := by simp
  have hf : find (T.set (pl T.length a c) none) e.key = pl T.length a c := by
    have := find_eq (T := T.set (pl T.length a c) none) (s := e.key) (d := back T.length e (pl T.length a c)) (by rw [hl]; exact back_lt hn _ _) ?_ ?_
    · rw [this, hl, h1]
    · rw [hl, h1]; exact stops_free (look_set_same hj)
    · intro x hx
      rw [hl]
      have hbl := back_lt hn e (pl T.length a c)
      have hp := back_path (a := a) (o := c) (t := back T.length e (pl T.length a c) - x) (e := e) hn (by omega)
      rw [show back T.length e (pl T.length a c) - (back T.length e (pl T.length a c) - x) = x by omega] at hp
      rw [← hp]
      have hcq := G.cq
      have hqn := G.qn
      have hgc := G.gc
      rw [stops_set_ne]
      · rcases G.path c e (by omega) he (back T.length e (pl T.length a c) - x) (by omega) (Nat.sub_le _ _) with h | ⟨h, _⟩
        · exact h
        · refine absurd h.symm ?_
          rw [← pl_add T.length a g]
          exact pl_ne (by omega) (by omega)
      · have h9 := pl_ne (n := T.length) (a := a) (x := c + T.length - (back T.length e (pl T.length a c) - x)) (y := c + T.length) (by omega) (by omega)
        rw [pl_add] at h9
        exact h9.symm
  rw [lay, hf, List.set_set]
  apply List.ext_getElem? 
  intro i
  rw [List.getElem?_set]
  split
  · rename_i hi
    subst hi
    simp only [look, List.getD, List.getElem?_eq_getElem hj, Option.getD_some] at he
    rw [List.getElem?_eq_getElem hj, he]
  · rfl
/- It moves into the gap, and the gap is where it was. -/
theorem Gap.move_lay {T : Tab} {a g c Q : Nat} {e : Ent} (G : Gap T a g c Q) (he : look T (pl T.length a c) = some e) (hb : c - g ≤ back T.length e (pl T.length a c)) : lay (T.set (pl T.length a c) none) e = moved T T.length a g c e := by
  have hj := look_lt he
  have hn : 0 < T.length := by omega
  have hl : (T.set (pl T.length a c) none).length = T.length := by simp
  have hcq := G.cq
  have hqn := G.qn
  have hgc := G.gc
  have hbl := back_lt hn e (pl T.length a c)
  have hcg : pl T.length a g ≠ pl T.length a c := pl_ne (by omega) (by omega)
  have hf : find (T.set (pl T.length a c) none) e.key = pl T.length a g := by
    have hp := back_path (a := a) (o := c) (t := c - g) (e := e) hn hb
    rw [show c + T.length - (c - g) = g + T.length by omega, pl_add] at hp
    have := find_eq (T := T.set (pl T.length a c) none) (s := e.key) (d := back T.length e (pl T.length a c) - (c - g)) (by rw [hl]; omega) ?_ ?_
    · rw [this, hl, hp]
    · rw [hl, ← hp, stops_set_ne hcg.symm]; exact stops_free G.hg
    · intro x hx
      rw [hl]
      have hp2 := back_path (a := a) (o := c) (t := back T.length e (pl T.length a c) - x) (e := e) hn (by omega)
      rw [show back T.length e (pl T.length a c) - (back T.length e (pl T.length a c) - x) = x by omega] at hp2
      rw [← hp2]
      rw [stops_set_ne]
      · rcases G.path c e (by omega) he (back T.length e (pl T.length a c) - x) (by omega) (Nat.sub_le _ _) with h | ⟨h, _⟩
        · exact h
        · refine absurd h ?_
          rw [← pl_add (x := g)]
          exact pl_ne (by omega) (by omega)
      · have h9 := pl_ne (n := T.length) (a := a) (x := c + T.length - (back T.length e (pl T.length a c) - x)) (y := c + T.length) (by omega) (by omega)
        rw [pl_add] at h9
        exact h9.symm
  rw [lay, hf]
  rfl
theorem moved_length (T : Tab) (n a g c : Nat) (e : Ent) : (moved T n a g c e).length = T.length := by simp [moved]
theorem look_moved {T : Tab} {a g c j : Nat} {e : Ent} (hn : 0 < T.length) : look (moved T T.length a g c e) j = if pl T.length a g = j then some e else if pl T.length a c = j then none else look T j := by
  unfold moved
  rw [look_set (by rw [List.length_set]; exact pl_lt hn), look_set (pl_lt hn)]
theorem Gap.move {T : Tab} {a g c Q : Nat} {e : Ent} (G : Gap T a g c Q) (he : look T (pl T.length a c) = some e) (hb : c - g ≤ back T.length e (pl T.length a c)) : Gap (moved T T.length a g c e) a c (c + 1) Q := by
  have hj := look_lt he
  have hn : 0 < T.length := by omega
  have hcq := G.cq
  have hqn := G.qn
  have hgc := G.gc
  have hbl := back_lt hn e (pl T.length a c)
  have hcg : pl T.length a g ≠ pl T.length a c := pl_ne (by omega) (by omega)
  have hne : c ≠ Q := by rintro rfl; have := G.hq; rw [this] at he; cases he
  have hgq : pl T.length a g ≠ pl T.length a Q := pl_ne (by omega) (by omega)
  have hcQ : pl T.length a c ≠ pl T.length a Q := pl_ne (by omega) (by omega)
  refine ⟨by omega, by omega, by rw [moved_length]; exact hqn, ?_, ?_, ?_⟩
  · rw [moved_length, look_moved hn, if_neg hcg, if_pos rfl]
  · rw [moved_length, look_moved hn, if_neg hgq, if_neg hcQ]; exact G.hq
  · intro o f ho hf t h1 h2
    rw [moved_length] at ho hf h2 ⊢
    have same : ∀ s j, j ≠ pl T.length a g → j ≠ pl T.length a c → stops (moved T T.length a g c e) s j = stops T s j := by
      intro s j h3 h4
      simp only [stops]
      rw [look_moved hn, if_neg (Ne.symm h3), if_neg (Ne.symm h4)]
    rw [look_moved hn] at hf
    by_cases hog : pl T.length a g = pl T.length a o
    · -- what was moved
      rw [if_pos hog] at hf
      injection hf with hf
      subst hf
      have e1 : g = o := by
        rcases Nat.lt_trichotomy g o with h | h | h
        · exact absurd hog (pl_ne h (by omega))
        · exact h
        · exact absurd hog.symm (pl_ne h (by omega))
      subst e1
      have e2 : back T.length e (pl T.length a g) = back T.length e (pl T.length a c) - (c - g) := by
        have hp := back_path (a := a) (o := c) (t := c - g) (e := e) hn hb
        rw [show c + T.length - (c - g) = g + T.length by omega, pl_add] at hp
        have hh := home_back (e := e) (pl_lt (a := a) (x := g) hn)
        have hlt := back_lt hn e (pl T.length a g)
        have h3 := hh.trans hp
        rcases Nat.le_total (back T.length e (pl T.length a g)) (back T.length e (pl T.length a c) - (c - g)) with h | h
        · have := mod_one h3 (by omega) (by omega); omega
        · have := mod_one h3.symm (by omega) (by omega); omega
      rw [e2] at h2
      have hnp : pl T.length a (g + T.length - t) ≠ pl T.length a g := by
        rw [← pl_add (x := g)]
        exact pl_ne (by omega) (by omega)
      refine .inl ?_
      have h3 := G.path c e (by omega) he (t + (c - g)) (by omega) (by omega)
      rw [show c + T.length - (t + (c - g)) = g + T.length - t by omega] at h3
      rcases h3 with h3 | ⟨h3, _⟩
      · rw [same _ _ hnp (fun h4 => by rw [h4, stops_key he] at h3; simp at h3)]
        exact h3
      · exact absurd h3 hnp
    · rw [if_neg hog] at hf
      by_cases hoc : pl T.length a c = pl T.length a o
      · rw [if_pos hoc] at hf; cases hf
      · rw [if_neg hoc] at hf
        have hoc' : o ≠ c := fun h => hoc (by rw [h])
        by_cases hp : pl T.length a (o + T.length - t) = pl T.length a g
        · refine .inl ?_
          rw [hp]
          rw [stops_key (e := e) (by rw [look_moved hn, if_pos rfl])]
          simp only [decide_eq_false_iff_not]
          intro hk
          exact hoc' (G.one ho (by omega) hf he hk.symm)
        · have h3 := (G.path o f ho hf t h1 h2).resolve_right (fun h => hp h.1)
          by_cases hpc : pl T.length a (o + T.length - t) = pl T.length a c
          · refine .inr ⟨hpc, ?_⟩
            apply Classical.byContradiction
            intro h4
            have hbo := back_lt hn f (pl T.length a o)
            have e3 : o + T.length - t = c := by
              rcases Nat.lt_trichotomy (o + T.length - t) c with h | h | h
              · exact absurd hpc (pl_ne h (by omega))
              · exact h
              · exact absurd hpc.symm (pl_ne h (by omega))
            rcases G.path o f ho hf (o + T.length - Q) (by omega) (by omega) with h5 | ⟨_, h5⟩
            · rw [show o + T.length - (o + T.length - Q) = Q by omega, stops_free G.hq] at h5
              cases h5
            · omega
          · exact .inl (by rw [same _ _ hp hpc]; exact h3)
/- No more is to be moved. -/
theorem Gap.shut {T : Tab} {a g c Q : Nat} (G : Gap T a g c Q) (hc : look T (pl T.length a c) = none) : WF T := by
  intro j e he
  have hj := look_lt he
  have hn : 0 < T.length := by omega
  have hcq := G.cq
  have hqn := G.qn
  have hgc := G.gc
  obtain ⟨o, ho, rfl⟩ := some_pl (a := a) hj
  refine find_back he (fun t h1 h2 => ?_)
  rcases G.path o e ho he t h1 h2 with h | ⟨h, h3⟩
  · exact h
  · exfalso
    have hbo := back_lt hn e (pl T.length a o)
    have hoc : o ≠ c := by rintro rfl; rw [hc] at he; cases he
    have e3 : t = o - g := by
      rw [← pl_add (x := g)] at h
      rcases Nat.lt_trichotomy (o + T.length - t) (g + T.length) with h4 | h4 | h4
      · exact absurd h (pl_ne h4 (by omega))
      · omega
      · exact absurd h.symm (pl_ne h4 (by omega))
    rcases G.path o e ho he (o - c) (by omega) (by omega) with h5 | ⟨h5, _⟩
    · rw [show o + T.length - (o - c) = c + T.length by omega, pl_add, stops_free hc] at h5
      cases h5
    · rw [show o + T.length - (o - c) = c + T.length by omega, pl_add] at h5
      exact pl_ne (n := T.length) (a := a) hgc (by omega) h5.symm
/- The gap's beginning. -/
theorem Gap.start {T : Tab} (hw : WF T) (hf : free T) {a : Nat} {e : Ent} (he : look T a = some e) : ∃ Q, Gap (T.set a none) a 0 1 Q := by
  have hj := look_lt he
  have hn : 0 < T.length := by omega
  obtain ⟨q, hq, hlq⟩ := hf
  obtain ⟨Q, hQ, rfl⟩ := some_pl (a := a) hq
  have h0 : pl T.length a 0 = a := by simp [pl, Nat.mod_eq_of_lt hj]
  have hQ0 : Q ≠ 0 := by rintro rfl; rw [h0, he] at hlq; cases hlq
  have hne : a ≠ pl T.length a Q := by
    have := pl_ne (n := T.length) (a := a) (x := 0) (y := Q) (by omega) (by omega)
    rwa [h0] at this
  refine ⟨Q, by omega, by omega, by simpa using hQ, ?_, ?_, ?_⟩
  · rw [List.length_set, h0, look_set_same hj]
  · rw [List.length_set, look_set_ne hne]; exact hlq
  · intro o f ho hf t h1 h2
    rw [List.length_set] at ho hf h2 ⊢
    have hao : a ≠ pl T.length a o := by
      intro h
      rw [← h, look_set_same hj] at hf
      cases hf
    rw [look_set_ne hao] at hf
    by_cases hp : pl T.length a (o + T.length - t) = pl T.length a 0
    · refine .inr ⟨hp, ?_⟩
      rcases Nat.eq_zero_or_pos o with h | h
      · rw [h, h0] at hao; exact absurd rfl hao
      · exact h
    · refine .inl ?_
      rw [h0] at hp
      rw [stops_set_ne (Ne.symm hp)]
      exact wf_back hw hf t h1 h2
end Go.Proofs.Ytgjofinbdigmcaa.Key
namespace Go.Proofs.Ytgjofinbdigmcaa.Key
open Go.Proofs.Ytgjofinbdigmcaa.Mem Go.Proofs.Ytgjofinbdigmcaa.Fnv
set_option linter.unusedVariables false

theorem Gap.mem_moved {T : Tab} {a g c Q : Nat} {e f : Ent} (G : Gap T a g c Q) (he : look T (pl T.length a c) = some e) : some f ∈ moved T T.length a g c e ↔ some f ∈ T := by
  have hn : 0 < T.length := by have := G.qn; omega
  have hcq := G.cq
  have hqn := G.qn
  have hgc := G.gc
  have hcg : pl T.length a g ≠ pl T.length a c := pl_ne (by omega) (by omega)
  rw [look_mem, look_mem]
  constructor
  · rintro ⟨j, hj⟩
    rw [look_moved hn] at hj
    split at hj
    · exact ⟨_, he.trans hj⟩
    · split at hj
      · cases hj
      · exact ⟨j, hj⟩
  · rintro ⟨j, hj⟩
    by_cases h1 : pl T.length a c = j
    · refine ⟨pl T.length a g, ?_⟩
      rw [look_moved hn, if_pos rfl, ← he, h1, hj]
    · refine ⟨j, ?_⟩
      rw [look_moved hn, if_neg ?_, if_neg h1, hj]
      rintro rfl
      rw [G.hg] at hj
      cases hj
theorem Gap.cnt_moved {T : Tab} {a g c Q : Nat} {e : Ent} (G : Gap T a g c Q) (he : look T (pl T.length a c) = some e) : cnt (moved T T.length a g c e) = cnt T := by
  have hn : 0 < T.length := by have := G.qn; omega
  have hcq := G.cq
  have hqn := G.qn
  have hgc := G.gc
  have hcg : pl T.length a g ≠ pl T.length a c := pl_ne (by omega) (by omega)
  have h1 := cnt_set (T := T) (i := pl T.length a c) (pl_lt hn) none
  have h2 := cnt_set (T := T.set (pl T.length a c) none) (i := pl T.length a g) (by rw [List.length_set]; exact pl_lt hn) (some e)
  rw [look_set_ne hcg.symm, G.hg] at h2
  rw [he] at h1
  simp at h1 h2
  unfold moved
  omega
def close (n a : Nat) : Nat → Tab → Nat → Nat → Tab
  | 0, T, g, c => T
  | f + 1, T, g, c => match look T (pl n a c) with
    | none => T
    | some e => if c - g ≤ back n e (pl n a c) then close n a f (moved T n a g c e) c (c + 1) else close n a f T g (c + 1)
theorem close_none {n a f g c : Nat} {T : Tab} (h : look T (pl n a c) = none) : close n a f T g c = T := by
  cases f with
  | zero => rfl
  | succ f => simp [close, h]
theorem close_move {n a f g c : Nat} {T : Tab} {e : Ent} (h : look T (pl n a c) = some e) (hb : c - g ≤ back n e (pl n a c)) : close n a (f + 1) T g c = close n a f (moved T n a g c e) c (c + 1) := by
  simp [close, h, hb]
theorem close_stay {n a f g c : Nat} {T : Tab} {e : Ent} (h : look T (pl n a c) = some e) (hb : ¬ c - g ≤ back n e (pl n a c)) : close n a (f + 1) T g c = close n a f T g (c + 1) := by
  simp [close, h, hb]
theorem close_all {n a : Nat} : ∀ {f : Nat} {T : Tab} {g c Q : Nat}, Gap T a g c Q → T.length = n → Q - c < f → WF (close n a f T g c) ∧ (close n a f T g c).length = n ∧ (∀ e, some e ∈ close n a f T g c ↔ some e ∈ T) ∧ cnt (close n a f T g c) = cnt T
  | 0, T, g, c, Q, _, _, h => by omega
  | f + 1, T, g, c, Q, G, hl, h => by
    subst hl
    cases he : look T (pl T.length a c) with
    | none =>
      rw [close_none he]
      exact ⟨G.shut he, rfl, fun _ => Iff.rfl, rfl⟩
    | some e =>
      by_cases hb : c - g ≤ back T.length e (pl T.length a c)
      · rw [close_move he hb]
        have G2 := G.move he hb
        have h2 := G2.cq
        obtain ⟨k1, k2, k3, k4⟩ := close_all (n := T.length) (f := f) G2 (moved_length ..) (by omega)
        exact ⟨k1, k2, fun x => (k3 x).trans (G.mem_moved he), k4.trans (G.cnt_moved he)⟩
      · rw [close_stay he hb]
        have G2 := G.stay he hb
        have h2 := G2.cq
        exact close_all (n := T.length) (f := f) G2 rfl (by omega)
def gone (T : Tab) (s : ByteArray) : Tab := close T.length (find T s) T.length (T.set (find T s) none) 0 1
def del (T : Tab) (s : ByteArray) : Tab := if (ask T s).isSome then gone T s else T
theorem del_none {T : Tab} {s : ByteArray} (h : ask T s = none) : del T s = T := by simp [del, h]
theorem del_some {T : Tab} {s : ByteArray} {e : Ent} (h : ask T s = some e) : del T s = gone T s := by simp [del, h]
theorem gone_all {T : Tab} (hw : WF T) (hf : free T) {s : ByteArray} {e : Ent} (he : ask T s = some e) : WF (gone T s) ∧ (gone T s).length = T.length ∧ (∀ f, some f ∈ gone T s ↔ (some f ∈ T ∧ f.key ≠ s)) ∧ cnt (gone T s) + 1 = cnt T := by
  have hl : look T (find T s) = some e := he
  have hj := look_lt hl
  obtain ⟨Q, G⟩ := Gap.start hw hf hl
  have hq := G.qn
  rw [List.length_set] at hq
  obtain ⟨k1, k2, k3, k4⟩ := close_all (n := T.length) (f := T.length) G (by simp) (by omega)
  refine ⟨k1, k2, fun f => (k3 f).trans ?_, ?_⟩
  · rw [look_mem, look_mem]
    constructor
    · rintro ⟨j, h1⟩
      rw [look_set hj] at h1
      split at h1
      · cases h1
      · rename_i hne
        refine ⟨⟨j, h1⟩, ?_⟩
        rintro rfl
        exact hne (hw _ _ h1)
    · rintro ⟨⟨j, h1⟩, h2⟩
      refine ⟨j, ?_⟩
      rw [look_set_ne]
      · exact h1
      · rintro rfl
        exact h2 (find_key hf h1)
  · have h1 := cnt_set hj none
    rw [hl] at h1
    simp at h1
    unfold gone
    omega
/- The table laid anew. -/
def lays (A : Tab) (o : Option Ent) : Tab := match o with | none => A | some e => lay A e
def part (T : Tab) (m k : Nat) : Tab := (T.take k).foldl lays (List.replicate m none)
def again (T : Tab) (m : Nat) : Tab := part T m T.length
theorem part_zero (T : Tab) (m : Nat) : part T m 0 = List.replicate m none := by simp [part]
theorem take_look {T : Tab} {k : Nat} (h : k < T.length) : T.take (k + 1) = T.take k ++ [look T k] := by
  rw [List.take_succ_eq_append_getElem h]
  simp [look, List.getD, h]
theorem part_succ {T : Tab} {m k : Nat} (h : k < T.length) : part T m (k + 1) = lays (part T m k) (look T k) := by
  unfold part
  rw [take_look h, List.foldl_append]
  rfl
theorem part_none {T : Tab} {m k : Nat} (h : k < T.length) (he : look T k = none) : part T m (k + 1) = part T m k := by rw [part_succ h, he]; rfl
theorem part_some {T : Tab} {m k : Nat} {e : Ent} (h : k < T.length) (he : look T k = some e) : part T m (k + 1) = lay (part T m k) e := by rw [part_succ h, he]; rfl
theorem cnt_take {T : Tab} {k : Nat} (h : k < T.length) : cnt (T.take (k + 1)) = cnt (T.take k) + (if (look T k).isSome then 1 else 0) := by
  unfold cnt
  rw [take_look h, List.countP_append]
  simp
theorem cnt_take_le (T : Tab) (k : Nat) : cnt (T.take k) ≤ cnt T := by
  unfold cnt
  exact (List.take_sublist k T).countP_le
theorem part_all {T : Tab} (hw : WF T) {m : Nat} (hm : cnt T < m) : ∀ k, k ≤ T.length → WF (part T m k) ∧ (part T m k).length = m ∧ (∀ f, some f ∈ part T m k ↔ ∃ j, j < k ∧ look T j = some f) ∧ cnt (part T m k) = cnt (T.take k)
  | 0, _ => by
    rw [part_zero]
    refine ⟨wf_new m, by simp, fun f => ⟨fun h => ?_, fun ⟨j, h, _⟩ => by omega⟩, by rw [cnt_new]; simp [cnt]⟩
    have := (List.mem_replicate.1 h).2
    cases this
  | k + 1, hk => by
    obtain ⟨k1, k2, k3, k4⟩ := part_all hw hm k (by omega)
    have hc := cnt_take (T := T) (k := k) (by omega)
    cases he : look T k with
    | none =>
      rw [part_none (by omega) he]
      refine ⟨k1, k2, fun f => (k3 f).trans ⟨fun ⟨j, h1, h2⟩ => ⟨j, by omega, h2⟩, fun ⟨j, h1, h2⟩ => ⟨j, ?_, h2⟩⟩, ?_⟩
      · have : j ≠ k := by rintro rfl; rw [he] at h2; cases h2
        omega
      · rw [he] at hc; simp at hc; omega
    | some e =>
      rw [part_some (by omega) he]
      have hle := cnt_take_le T k
      have hf : free (part T m k) := free_of_cnt (by omega)
      have hno : ∀ f, some f ∈ part T m k → f.key ≠ e.key := by
        intro f hf hk
        obtain ⟨j, h1, h2⟩ := (k3 f).1 hf
        have := look_one hw h2 he hk
        omega
      refine ⟨wf_lay k1 hf e, by rw [lay_length, k2], fun f => (mem_lay k1 hf).trans ?_, ?_⟩
      · constructor
        · rintro (rfl | ⟨h1, _⟩)
          · exact ⟨k, by omega, he⟩
          · obtain ⟨j, h2, h3⟩ := (k3 f).1 h1
            exact ⟨j, by omega, h3⟩
        · rintro ⟨j, h1, h2⟩
          by_cases hjk : j = k
          · subst hjk
            rw [he] at h2
            injection h2 with h2
            exact .inl h2.symm
          · have := (k3 f).2 ⟨j, by omega, h2⟩
            exact .inr ⟨this, hno f this⟩
      · rw [cnt_lay hf]
        have hn : ask (part T m k) e.key = none := by
          cases ha : ask (part T m k) e.key with
          | none => rfl
          | some f =>
            obtain ⟨h1, h2⟩ := (ask_iff k1 hf).1 ha
            exact absurd h2 (hno f h1)
        rw [hn, k4]
        rw [he] at hc
        simp at hc ⊢
        omega
theorem again_all {T : Tab} (hw : WF T) {m : Nat} (hm : cnt T < m) : WF (again T m) ∧ (again T m).length = m ∧ (∀ f, some f ∈ again T m ↔ some f ∈ T) ∧ cnt (again T m) = cnt T := by
  obtain ⟨k1, k2, k3, k4⟩ := part_all hw hm T.length (Nat.le_refl _)
  refine ⟨k1, k2, fun f => (k3 f).trans ?_, ?_⟩
  · rw [look_mem]
    exact ⟨fun ⟨j, _, h⟩ => ⟨j, h⟩, fun ⟨j, h⟩ => ⟨j, look_lt h, h⟩⟩
  · show cnt (part T m T.length) = cnt T
    rw [k4, List.take_of_length_le (Nat.le_refl _)]
/- An entry is put. -/
def tight (T : Tab) : Prop := 3 * T.length < 4 * (cnt T + 1)
instance (T : Tab) : Decidable (tight T) := by unfold tight; infer_instance
def put (T : Tab) (e : Ent) : Tab := if ask T e.key = none ∧ tight T then lay (again T (2 * T.length)) e else lay T e
theorem put_tight {T : Tab} {e : Ent} (h : ask T e.key = none) (ht : tight T) : put T e = lay (again T (2 * T.length)) e := by simp [put, h, ht]
theorem put_wide {T : Tab} {e : Ent} (ht : ¬ tight T) : put T e = lay T e := by simp [put, ht]
theorem put_there {T : Tab} {e f : Ent} (h : ask T e.key = some f) : put T e = lay T e := by simp [put, h]
/- What holds of each table, behind i deeds. -/
structure Good (T : Tab) (i : Nat) : Prop where
  wf : WF T
  pow : ∃ k, 3 ≤ k ∧ T.length = 2 ^ k
  load : 4 * cnt T ≤ 3 * T.length
  few : cnt T ≤ i
  size : T.length ≤ 8 + 8 * i
theorem Good.eight {T : Tab} {i : Nat} (h : Good T i) : 8 ≤ T.length := by
  obtain ⟨k, h1, h2⟩ := h.pow
  rw [h2]
  exact Nat.pow_le_pow_right (n := 2) (by omega) h1
theorem Good.free {T : Tab} {i : Nat} (h : Good T i) : Key.free T := free_of_cnt (by have := h.eight; have := h.load; omega)
theorem Good.pow30 {T : Tab} {i : Nat} (h : Good T i) (hi : i ≤ 1000) : Pow (T.length : Int) := by
  obtain ⟨k, h1, h2⟩ := h.pow
  refine ⟨k, ?_, by rw [h2]⟩
  have h3 : 2 ^ k ≤ 2 ^ 30 := by rw [← h2]; have := h.size; omega
  exact (Nat.pow_le_pow_iff_right (by omega)).1 h3
theorem good_new : Good (List.replicate 8 none) 0 where
  wf := wf_new 8
  pow := ⟨3, by omega, by simp⟩
  load := by rw [cnt_new]; omega
  few := by rw [cnt_new]; omega
  size := by simp
theorem Good.more {T : Tab} {i : Nat} (h : Good T i) : Good T (i + 1) := ⟨h.wf, h.pow, h.load, by have := h.few; omega, by have := h.size; omega⟩
theorem Good.wide {T : Tab} {i : Nat} (h : Good T i) : Good (again T (2 * T.length)) i ∨ ¬ tight T := by
  by_cases ht : tight T
  · have h8 := h.eight
    obtain ⟨k1, k2, k3, k4⟩ := again_all h.wf (m := 2 * T.length) (by have := h.load; omega)
    obtain ⟨k, h1, h2⟩ := h.pow
    refine .inl ⟨k1, ⟨k + 1, by omega, by rw [k2, h2, Nat.pow_succ]; omega⟩, by have := h.load; omega, by rw [k4]; exact h.few, ?_⟩
    have := h.few
    unfold tight at ht
    omega
  · exact .inr ht
theorem Good.lay {T : Tab} {i : Nat} (h : Good T i) (e : Ent) (hn : ask T e.key = none → ¬ tight T) : Good (lay T e) (i + 1) := by
  have hc := cnt_lay h.free e
  refine ⟨wf_lay h.wf h.free e, by rw [lay_length]; exact h.pow, ?_, ?_, by rw [lay_length]; have := h.size; omega⟩
  · rw [lay_length]
    cases ha : ask T e.key with
    | none =>
      have := hn ha
      unfold tight at this
      rw [ha] at hc
      simp at hc
      omega
    | some f =>
      rw [ha] at hc
      simp at hc
      have := h.load
      omega
  · have := h.few
    split at hc <;> omega
theorem again_ask {T : Tab} {i : Nat} (h : Good T i) (h2 : Good (again T (2 * T.length)) i) (s : ByteArray) : ask (again T (2 * T.length)) s = ask T s := by
  obtain ⟨k1, k2, k3, k4⟩ := again_all h.wf (m := 2 * T.length) (by have := h.load; have := h.eight; omega)
  apply Option.ext
  intro f
  rw [ask_iff h2.wf h2.free, ask_iff h.wf h.free, k3]
theorem again_wide {T : Tab} {i : Nat} (h : Good T i) : ¬ tight (again T (2 * T.length)) := by
  obtain ⟨k1, k2, k3, k4⟩ := again_all h.wf (m := 2 * T.length) (by have := h.load; have := h.eight; omega)
  unfold tight
  have := h.load
  have := h.eight
  omega
theorem Good.put {T : Tab} {i : Nat} (h : Good T i) (e : Ent) : Good (put T e) (i + 1) := by
  by_cases hp : ask T e.key = none ∧ tight T
  · rw [put_tight hp.1 hp.2]
    exact (h.wide.resolve_right (fun k => k hp.2)).lay e (fun _ => again_wide h)
  · rw [show Key.put T e = Key.lay T e by simp only [Key.put, if_neg hp]]
    exact h.lay e (fun h1 h2 => hp ⟨h1, h2⟩)
theorem ask_put {T : Tab} {i : Nat} (h : Good T i) (e : Ent) (s : ByteArray) : ask (put T e) s = if s = e.key then some e else ask T s := by
  have hg := h.put e
  by_cases hp : ask T e.key = none ∧ tight T
  · have hw := h.wide.resolve_right (fun k => k hp.2)
    rw [put_tight hp.1 hp.2] at hg ⊢
    rw [ask_lay hw.wf hw.free hg.free, again_ask h hw]
  · rw [show Key.put T e = Key.lay T e by simp only [Key.put, if_neg hp]] at hg ⊢
    exact ask_lay h.wf h.free hg.free
theorem cnt_put {T : Tab} {i : Nat} (h : Good T i) (e : Ent) : cnt (put T e) = cnt T + (if (ask T e.key).isSome then 0 else 1) := by
  by_cases hp : ask T e.key = none ∧ tight T
  · have hw := h.wide.resolve_right (fun k => k hp.2)
    obtain ⟨k1, k2, k3, k4⟩ := again_all h.wf (m := 2 * T.length) (by have := h.load; have := h.eight; omega)
    rw [put_tight hp.1 hp.2, cnt_lay hw.free, again_ask h hw, k4]
  · rw [show Key.put T e = Key.lay T e by simp only [Key.put, if_neg hp]]
    exact cnt_lay h.free e
theorem Good.del {T : Tab} {i : Nat} (h : Good T i) (s : ByteArray) : Good (del T s) (i + 1) := by
  cases ha : ask T s with
  | none => rw [del_none ha]; exact h.more
  | some e =>
    rw [del_some ha]
    obtain ⟨k1, k2, k3, k4⟩ := gone_all h.wf h.free ha
    exact ⟨k1, by rw [k2]; exact h.pow, by rw [k2]; have := h.load; omega, by have := h.few; omega, by rw [k2]; have := h.size; omega⟩
theorem ask_del {T : Tab} {i : Nat} (h : Good T i) (s x : ByteArray) : ask (del T s) x = if x = s then none else ask T x := by
  have hg := h.del s
  cases ha : ask T s with
  | none =>
    rw [del_none ha]
    split
    · rename_i hx; rw [hx, ha]
    · rfl
  | some e =>
    rw [del_some ha] at hg ⊢
    obtain ⟨k1, k2, k3, k4⟩ := gone_all h.wf h.free ha
    apply Option.ext
    intro f
    rw [ask_iff hg.wf hg.free, k3]
    by_cases hx : x = s
    · rw [if_pos hx]
      subst hx
      constructor
      · rintro ⟨⟨_, h1⟩, h2⟩; exact absurd h2 h1
      · intro h1; cases h1
    · rw [if_neg hx, ask_iff h.wf h.free]
      constructor
      · rintro ⟨⟨h1, _⟩, h2⟩; exact ⟨h1, h2⟩
      · rintro ⟨h1, h2⟩; exact ⟨⟨h1, fun h3 => hx (h2.symm.trans h3)⟩, h2⟩
theorem cnt_del {T : Tab} {i : Nat} (h : Good T i) (s : ByteArray) : cnt (del T s) + (if (ask T s).isSome then 1 else 0) = cnt T := by
  cases ha : ask T s with
  | none => rw [del_none ha]; simp
  | some e =>
    rw [del_some ha]
    obtain ⟨k1, k2, k3, k4⟩ := gone_all h.wf h.free ha
    simpa using k4
end Go.Proofs.Ytgjofinbdigmcaa.Key
namespace Go.Proofs.Ytgjofinbdigmcaa.Key
open Go.Proofs.Ytgjofinbdigmcaa.Mem Go.Proofs.Ytgjofinbdigmcaa.Fnv
open Go.ChangeShapes Go.WideShapes Go.ChangeAt Go.RowKit
set_option linter.unusedVariables false
set_option linter.unusedSimpArgs false

def nothing : ByteArray := ⟨#[]⟩
def zero : Ent := ⟨nothing, 0, 0, 0, 0, 0, 0⟩
def ecells (e : Ent) : List Value := [.string e.key, .int .i64 e.seg, .int .i64 e.at_, .int .i64 e.len, .int .u64 (e.ver : Int), .int .u64 (e.exp : Int), .int .i64 e.size]
def pcells : Option Ent → List Value
  | none => .bool false :: ecells zero
  | some e => .bool true :: ecells e
def ent (o : Option Ent) : Ent := o.getD zero
theorem pcells_eq (o : Option Ent) : pcells o = .bool o.isSome :: ecells (ent o) := by cases o <;> rfl
theorem pcells_length (o : Option Ent) : (pcells o).length = 8 := by cases o <;> rfl
def rowT (T : Tab) : List Value := T.flatMap pcells
theorem flat_length {α : Type} {f : α → List Value} {k : Nat} (hf : ∀ x, (f x).length = k) : ∀ l : List α, (l.flatMap f).length = l.length * k
  | [] => by simp
  | x :: r => by
    rw [List.flatMap_cons, List.length_append, hf, flat_length hf r, List.length_cons, Nat.add_mul]
    omega
theorem flat_get {α : Type} {f : α → List Value} {k : Nat} (hf : ∀ x, (f x).length = k) : ∀ {l : List α} {i j : Nat} {x : α}, l[i]? = some x → j < k → (l.flatMap f)[i * k + j]? = (f x)[j]?
  | [], i, j, x, h, _ => by simp at h
  | y :: r, i, j, x, h, hj => by
    rw [List.flatMap_cons]
    cases i with
    | zero =>
      simp at h
      subst h
      rw [Nat.zero_mul, Nat.zero_add, List.getElem?_append_left (by rw [hf]; exact hj)]
    | succ i =>
      have ih := flat_get hf (l := r) (i := i) (j := j) (x := x) (by simpa using h) hj
      rw [List.getElem?_append_right (by rw [hf, Nat.add_mul]; omega), hf, Nat.add_mul, show i * k + 1 * k + j - k = i * k + j by omega]
      exact ih
theorem look_some {T : Tab} {i : Nat} (h : i < T.length) : T[i]? = some (look T i) := by simp [look, List.getD, h]
theorem rowT_length (T : Tab) : (rowT T).length = T.length * 8 := flat_length pcells_length T
theorem rowT_get {T : Tab} {i j : Nat} (h : i < T.length) (hj : j < 8) : (rowT T)[i * 8 + j]? = (pcells (look T i))[j]? := flat_get pcells_length (look_some h) hj
/- What any entry that there is holds. -/
structure Is (e : Ent) : Prop where
  key : e.key.size ≤ 9223372036854775807
  seg : -9223372036854775808 ≤ e.seg ∧ e.seg ≤ 9223372036854775807
  at_ : -9223372036854775808 ≤ e.at_ ∧ e.at_ ≤ 9223372036854775807
  len : -9223372036854775808 ≤ e.len ∧ e.len ≤ 9223372036854775807
  ver : e.ver < 18446744073709551616
  exp : e.exp < 18446744073709551616
  size : -9223372036854775808 ≤ e.size ∧ e.size ≤ 9223372036854775807
/- The table: its block p, its places' block g, kn keys as it says. -/
structure KAt (w : World) (p g : Nat) (T : Tab) (i kn : Nat) : Prop where
  blk : Blk w p 70 #[.slice (some ⟨g, 0, none⟩) T.length T.length, .int .i64 (kn : Int)]
  row : Blk w g 96 (rowT T).toArray
  good : Good T i
  small : ∀ e, some e ∈ T → e.key.size ≤ 200
  few : i ≤ 400
section
variable {w w' : World} {p g i kn : Nat} {T : Tab}
theorem KAt.but {F : Nat → Prop} (h : KAt w p g T i kn) (hb : But F w w') (h1 : ¬ F p) (h2 : ¬ F g) : KAt w' p g T i kn := ⟨h.blk.but hb h1, h.row.but hb h2, h.good, h.small, h.few⟩
theorem KAt.lt (h : KAt w p g T i kn) : T.length ≤ 4000 ∧ 8 ≤ T.length := ⟨by have := h.good.size; have := h.few; omega, h.good.eight⟩
theorem Blk.cells {b : Nat} {t : TypeId} (h : Blk w b t (rowT T).toArray) {k : Nat} (hk : k < T.length) :
    w.cell? ⟨b, k * 8, none⟩ = some (.bool (look T k).isSome) ∧ w.cell? ⟨b, k * 8 + 1, none⟩ = some (.string (ent (look T k)).key) ∧ w.cell? ⟨b, k * 8 + 2, none⟩ = some (.int .i64 (ent (look T k)).seg) ∧ w.cell? ⟨b, k * 8 + 3, none⟩ = some (.int .i64 (ent (look T k)).at_) ∧ w.cell? ⟨b, k * 8 + 4, none⟩ = some (.int .i64 (ent (look T k)).len) ∧ w.cell? ⟨b, k * 8 + 5, none⟩ = some (.int .u64 ((ent (look T k)).ver : Int)) ∧ w.cell? ⟨b, k * 8 + 6, none⟩ = some (.int .u64 ((ent (look T k)).exp : Int)) ∧ w.cell? ⟨b, k * 8 + 7, none⟩ = some (.int .i64 (ent (look T k)).size) := by
  have e : ∀ j, j < 8 → w.cell? ⟨b, k * 8 + j, none⟩ = (pcells (look T k))[j]? := fun j hj => by
    rw [h.cell, List.getElem?_toArray]; exact rowT_get hk hj
  rw [pcells_eq] at e
  exact ⟨e 0 (by omega), e 1 (by omega), e 2 (by omega), e 3 (by omega), e 4 (by omega), e 5 (by omega), e 6 (by omega), e 7 (by omega)⟩
end
set_option maxRecDepth 100000 in
set_option maxHeartbeats 400000 in
theorem wrap_any {w : World} {p g n : Nat} {u : Value} (c0 : w.cell? ⟨p, 0, none⟩ = some (.slice (some ⟨g, 0, none⟩) n n)) (hn : 1 ≤ n ∧ n ≤ 1000000) (x : Nat) (hx : x ≤ 1000000000) :
    Calls Try.prog 66 #[.pointer (some ⟨p, 0, none⟩), .int .i64 (x : Int)] w fun e w' => e = .returned (.int .i64 ((x % n : Nat) : Int)) ∧ w = w' := by
  have ht : (x : Int).tmod (n : Int) = ((x % n : Nat) : Int) := by rw [Int.tmod_eq_emod_of_nonneg (by omega)]; exact (Int.natCast_emod x n).symm
  have hlt : x % n < n := Nat.mod_lt _ (by omega)
  obtain ⟨M, hM⟩ : ∃ M, M = x % n := ⟨_, rfl⟩
  rw [← hM] at ht hlt ⊢
  clear hM
  obtain ⟨hn1, hn2⟩ := hn
  have hz : ((n : Int) == 0) = false := beq_eq_false_iff_ne.2 (by omega)
  go_enter Try.func66, Try.ntmps66
  go_wp2
  go_ret
  exact ⟨rfl, rfl⟩
end Go.Proofs.Ytgjofinbdigmcaa.Key
namespace Go.Proofs.Ytgjofinbdigmcaa.Key
open Go.Proofs.Ytgjofinbdigmcaa.Mem Go.Proofs.Ytgjofinbdigmcaa.Fnv
open Go.ChangeShapes Go.WideShapes Go.ChangeAt Go.RowKit
set_option linter.unusedVariables false
set_option linter.unusedSimpArgs false
section
variable {w : World} {p g i kn : Nat} {T : Tab}
theorem home_nat {n : Nat} (s : ByteArray) : homeOf s (n : Int) = ((hm n s : Nat) : Int) := (Int.natCast_emod _ _).symm
set_option maxRecDepth 100000 in
set_option maxHeartbeats 400000 in
theorem khome_any (h : KAt w p g T i kn) (s : ByteArray) (hs : s.size ≤ 200) :
    Calls Try.prog 56 #[.pointer (some ⟨p, 0, none⟩), .string s] w fun e w' => e = .returned (.int .i64 ((hm T.length s : Nat) : Int)) ∧ w = w' := by
  have c0 : w.cell? ⟨p, 0, none⟩ = some (.slice (some ⟨g, 0, none⟩) T.length T.length) := h.blk.cell 0
  have hp := h.good.pow30 (by have := h.few; omega)
  have hc := home_yes s (by omega) hp w
  rw [home_nat] at hc
  obtain ⟨l1, l2⟩ := h.lt
  have HC := Lib.hid hc
  clear hc hp h hs
  generalize T.length = n at *
  generalize hm n s = m at *
  go_enter Try.func56, Try.ntmps56
  go_wp2_with fail
  refine HC.out.mono ?_
  rintro e w' ⟨rfl, rfl⟩
  clear HC
  go_wp2_with fail
  go_ret
  exact ⟨rfl, rfl⟩
set_option maxRecDepth 100000 in
set_option maxHeartbeats 400000 in
theorem knext_any (h : KAt w p g T i kn) (x : Nat) (hx : x ≤ 100000) :
    Calls Try.prog 57 #[.pointer (some ⟨p, 0, none⟩), .int .i64 (x : Int)] w fun e w' => e = .returned (.int .i64 (((x + 1) % T.length : Nat) : Int)) ∧ w = w' := by
  have c0 : w.cell? ⟨p, 0, none⟩ = some (.slice (some ⟨g, 0, none⟩) T.length T.length) := h.blk.cell 0
  obtain ⟨l1, l2⟩ := h.lt
  have hc := wrap_any (u := .bool true) c0 (by omega) (x + 1) (by omega)
  obtain ⟨m, hm⟩ : ∃ m, m = (x + 1) % T.length := ⟨_, rfl⟩
  rw [← hm] at hc ⊢
  have HC := Lib.hid hc
  clear h hc hm
  generalize T.length = n at *
  go_enter Try.func57, Try.ntmps57
  go_wp2_with fail
  refine HC.out.mono ?_
  rintro e w' ⟨rfl, rfl⟩
  clear HC
  go_wp2_with fail
  go_ret
  exact ⟨rfl, rfl⟩
set_option maxRecDepth 100000 in
set_option maxHeartbeats 400000 in
theorem ksteps_any (h : KAt w p g T i kn) (x y : Nat) (hx : x < T.length) (hy : y < T.length) :
    Calls Try.prog 62 #[.pointer (some ⟨p, 0, none⟩), .int .i64 (x : Int), .int .i64 (y : Int)] w fun e w' => e = .returned (.int .i64 (((y + T.length - x) % T.length : Nat) : Int)) ∧ w = w' := by
  have c0 : w.cell? ⟨p, 0, none⟩ = some (.slice (some ⟨g, 0, none⟩) T.length T.length) := h.blk.cell 0
  obtain ⟨l1, l2⟩ := h.lt
  have hc := wrap_any (u := .bool true) c0 (by omega) (y + T.length - x) (by omega)
  obtain ⟨m, hm⟩ : ∃ m, m = (y + T.length - x) % T.length := ⟨_, rfl⟩
  rw [← hm] at hc ⊢
  clear h hm
  generalize T.length = n at *
  obtain ⟨Z, hZ⟩ : ∃ Z, Z = y + n - x := ⟨_, rfl⟩
  rw [← hZ] at hc
  have HC := Lib.hid hc
  clear hc
  have hz : (y : Int) - (x : Int) + (n : Int) = (Z : Int) := by omega
  have hz1 : (y : Int) - (x : Int) = (Z : Int) - (n : Int) := by omega
  clear hZ
  go_enter Try.func62, Try.ntmps62
  go_wp2_with fail
  refine HC.out.mono ?_
  rintro e w' ⟨rfl, rfl⟩
  clear HC
  go_wp2_with fail
  go_ret
  exact ⟨rfl, rfl⟩
set_option maxRecDepth 100000 in
set_option maxHeartbeats 400000 in
theorem ktight_any (h : KAt w p g T i (cnt T)) :
    Calls Try.prog 48 #[.pointer (some ⟨p, 0, none⟩)] w fun e w' => e = .returned (.bool (decide (tight T))) ∧ ∃ n, w' = w.drewN n := by
  have c0 := fun n => show (w.drewN n).cell? ⟨p, 0, none⟩ = some (.slice (some ⟨g, 0, none⟩) T.length T.length) from h.blk.cell 0
  have c1 := fun n => show (w.drewN n).cell? ⟨p, 1, none⟩ = some (.int .i64 (cnt T : Int)) from h.blk.cell 1
  obtain ⟨l1, l2⟩ := h.lt
  have hc := cnt_le T
  have hd : decide (tight T) = decide (3 * (T.length : Int) < 4 * ((cnt T : Int) + 1)) := by
    unfold tight
    exact decide_eq_decide.2 ⟨fun _ => by omega, fun _ => by omega⟩
  rw [hd]
  clear h hd
  generalize T.length = n at *
  generalize cnt T = m at *
  obtain ⟨d, hd⟩ : ∃ d, d = decide (3 * (n : Int) < 4 * ((m : Int) + 1)) := ⟨_, rfl⟩
  rw [← hd]
  have hd' := hd.symm
  clear hd
  go_enter Try.func48, Try.ntmps48
  go_wp2
  go_quiet (fail)
  go_wp2
  go_ret
  exact ⟨rfl, _, rfl⟩
end
end Go.Proofs.Ytgjofinbdigmcaa.Key
namespace Go.Proofs.Ytgjofinbdigmcaa.Key
open Go.Proofs.Ytgjofinbdigmcaa.Mem Go.Proofs.Ytgjofinbdigmcaa.Fnv
open Go.ChangeShapes Go.WideShapes Go.ChangeAt Go.RowKit
set_option linter.unusedVariables false
set_option linter.unusedSimpArgs false
theorem str_beq (a b : ByteArray) : (a.toList == b.toList) = decide (a = b) := by
  rw [ByteArray.toList_eq, ByteArray.toList_eq, Bool.eq_iff_iff]
  obtain ⟨⟨x⟩⟩ := a
  obtain ⟨⟨y⟩⟩ := b
  simp
theorem stops_false {T : Tab} {s : ByteArray} {j : Nat} (h : stops T s j = false) : ∃ e, look T j = some e ∧ (e.key.toList == s.toList) = false := by
  cases hl : look T j with
  | none => simp [stops, hl] at h
  | some e =>
    rw [stops_key hl] at h
    exact ⟨e, rfl, by rw [str_beq]; exact h⟩
theorem stops_true {T : Tab} {s : ByteArray} {j : Nat} (h : stops T s j = true) : look T j = none ∨ ∃ e, look T j = some e ∧ (e.key.toList == s.toList) = true := by
  cases hl : look T j with
  | none => exact .inl rfl
  | some e =>
    rw [stops_key hl] at h
    exact .inr ⟨e, rfl, by rw [str_beq]; exact h⟩
theorem off_of {n h d : Nat} (hh : h < n) (hd : d < n) : ((h + d) % n + n - h) % n = d := by
  rcases Nat.lt_or_ge (h + d) n with h1 | h1
  · rw [Nat.mod_eq_of_lt h1, show h + d + n - h = d + n by omega, Nat.add_mod_right, Nat.mod_eq_of_lt hd]
  · have h2 : (h + d) % n = h + d - n := by
      rw [Nat.mod_eq_sub_mod h1, Nat.mod_eq_of_lt (by omega)]
    rw [h2, show h + d - n + n - h = d by omega, Nat.mod_eq_of_lt hd]
section
variable {w : World} {p g i kn : Nat} {T : Tab}
set_option maxRecDepth 100000 in
set_option maxHeartbeats 1000000 in
theorem kfind_any (h : KAt w p g T i kn) (s : ByteArray) (hs : s.size ≤ 200) :
    Calls Try.prog 45 #[.pointer (some ⟨p, 0, none⟩), .string s] w fun e w' => e = .returned (.int .i64 ((find T s : Nat) : Int)) ∧ w = w' := by
  have c0 : w.cell? ⟨p, 0, none⟩ = some (.slice (some ⟨g, 0, none⟩) T.length T.length) := h.blk.cell 0
  obtain ⟨l1, l2⟩ := h.lt
  have HD := Lib.hid (dist_free h.good.free s)
  have HH := Lib.hid (khome_any h s hs)
  have HN := Lib.hid (knext_any h)
  have HC := Lib.hid (fun k hk => Blk.cells h.row (k := k) hk)
  clear h
  obtain ⟨n, hn⟩ : ∃ n, n = T.length := ⟨_, rfl⟩
  rw [← hn] at c0 l1 l2 HH HN HC HD
  have HNN := Lib.hid hn
  clear hn
  go_enter Try.func45, Try.ntmps45
  go_wp2_with fail
  refine HH.out.mono ?_
  rintro e w' ⟨rfl, rfl⟩
  go_wp2_with fail
  go_loop [5] (fun at_ => ∃ d : Nat, d ≤ dist T s ∧ at_ = .int .i64 (((hm n s + d) % n : Nat) : Int)) (fun at_ => dist T s - (((intOf at_).toNat + n - hm n s) % n))
  case atStart => exact ⟨0, Nat.zero_le _, by rw [Nat.add_zero, Nat.mod_eq_of_lt (hm_lt (by omega) s)]⟩
  case round =>
    obtain ⟨d, hd, rfl⟩ := hrel
    have hdl := HD.out
    have hnn := HNN.out
    have hml := hm_lt (show 0 < n by omega) s
    have hk : (hm n s + d) % n < n := Nat.mod_lt _ (by omega)
    obtain ⟨k, hkd⟩ : ∃ k, k = (hm n s + d) % n := ⟨_, rfl⟩
    rw [← hkd] at hk ⊢
    obtain ⟨a0, a1, -, -, -, -, -, -⟩ := HC.out k hk
    by_cases hdd : d < dist T s
    · have hst := dist_before hdd
      rw [← hnn, ← hkd] at hst
      obtain ⟨e, hl, hne⟩ := stops_false hst
      rw [hl] at a0 a1
      have e0 : w.cell? ⟨g, k * 8, none⟩ = some (.bool true) := a0
      have e1 : w.cell? ⟨g, k * 8 + 1, none⟩ = some (.string e.key) := a1
      have hoff := off_of hml (show d < n by omega)
      rw [← hkd] at hoff
      have hnext : (k + 1) % n = (hm n s + (d + 1)) % n := by rw [hkd, Nat.mod_add_mod, Nat.add_assoc]
      have hoff2 := off_of hml (show d + 1 < n by omega)
      rw [← hnext] at hoff2
      have HX := Lib.hid (HN.out k (by omega))
      have HNX := Lib.hid hnext
      have HOFF := Lib.hid hoff
      have HOFF2 := Lib.hid hoff2
      have HDD := Lib.hid hdd
      clear a0 a1 HH HN HC HD hst hl hoff hoff2 hnext hkd hd hdl hdd HNN hnn
      go_wp2_with fail
      refine HX.out.mono ?_
      rintro e' w' ⟨rfl, rfl⟩
      have hm3 := Nat.mod_lt (k + 1) (show 0 < n by omega)
      obtain ⟨k', hk'⟩ : ∃ k', k' = (k + 1) % n := ⟨_, rfl⟩
      rw [← hk'] at hm3 HNX HOFF2 ⊢
      clear hk' HX
      go_wp2_with fail
      go_round
      case rel => exact ⟨d + 1, HDD.out, by rw [← HNX.out]⟩
      case measure => simp only [intOf, Int.toNat_natCast]; rw [HOFF.out, HOFF2.out]; have := HDD.out; omega
    · have hde : d = dist T s := by omega
      have hfd : find T s = k := by rw [find, ← hnn, ← hde, ← hkd]
      have hst : stops T s k = true := by rw [← hfd]; exact dist_stops (by omega)
      have HF := Lib.hid hfd
      clear HH HN HD hkd hfd hd hde hdd hdl hnn
      rcases stops_true hst with hl | ⟨e, hl, heq⟩
      · rw [hl] at a0
        have e0 : w.cell? ⟨g, k * 8, none⟩ = some (.bool false) := a0
        clear a0 a1 HC hst hl
        go_wp2_with fail
        go_ret
        exact ⟨by rw [HF.out]; rfl, rfl⟩
      · rw [hl] at a0 a1
        have e0 : w.cell? ⟨g, k * 8, none⟩ = some (.bool true) := a0
        have e1 : w.cell? ⟨g, k * 8 + 1, none⟩ = some (.string e.key) := a1
        clear a0 a1 HC hst hl
        go_wp2_with fail
        go_ret
        exact ⟨by rw [HF.out]; rfl, rfl⟩
end
end Go.Proofs.Ytgjofinbdigmcaa.Key
