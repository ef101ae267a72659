/- A number's text, and what Places tells of a place. -/
import Derived.Test.YtabclecfamkanaaDoorKeyDel
import Derived.Test.YtabclecfamkanaaDoorKeyLib
import Derived.Lib.LaidTab
import Derived.Lib.ItoaNum
namespace Go.Proofs.YtabclecfamkanaaDoor.Key
open Go.Proofs.YtabclecfamkanaaDoor.Mem Go.Proofs.YtabclecfamkanaaDoor.Fnv
open Go.ChangeShapes Go.WideShapes Go.ChangeAt Go.RowKit
set_option linter.unusedVariables false
set_option linter.unusedSimpArgs false
/- That the table of powers of ten lies there. -/
def Can (w : World) : Prop := Lib.TabIs Tryd.prog w "internal/strconv.uint64pow10" .u64 Lib.pow10Tab
theorem Can.but {w w1 : World} {F : Nat → Prop} (h : Can w) (hb : But F w w1) (hF : ∀ g, Tryd.prog.globalNamed "internal/strconv.uint64pow10" = some g → ¬ F g) : Can w1 := by
  unfold Can Lib.TabIs at h ⊢
  unfold World.var? at h ⊢
  cases hg : (Tryd.prog).globalNamed "internal/strconv.uint64pow10" with
  | none => rw [hg] at h; cases h
  | some g =>
    rw [hg] at h
    simp only [Option.bind_some] at h ⊢
    have hlt : g < w.heap.size := by
      rcases Nat.lt_or_ge g w.heap.size with h1 | h1
      · exact h1
      · rw [Array.getElem?_eq_none h1] at h; cases h
    rw [hb.block g hlt (hF g hg)]
    exact h
theorem below_grow (w : World) (k : Nat) (os : Array Obj) : Below w.heap.size w (Go.Sort.grow (w.drewN k) os) := by
  refine ⟨rfl, rfl, rfl, ?_, fun i hi => ?_⟩
  · show w.heap.size ≤ (w.heap ++ os).size
    rw [Array.size_append]; omega
  · show (w.heap ++ os)[i]? = w.heap[i]?
    exact Array.getElem?_append_left hi
def dec (n : Nat) : List UInt8 := Lib.decDigits n
theorem itoa_any {w : World} (n : Nat) (hn : n ≤ 100) (hc : Can w) :
    Calls Tryd.prog 27 #[.int .i64 (n : Int)] w fun e w' => e = .returned (.string ⟨(dec n).toArray⟩) ∧ But (fun _ => False) w w' := by
  by_cases h : n < 100
  · refine (Tryd.strconv_Itoa_small n h w).mono ?_
    rintro e w' ⟨rfl, rfl⟩
    exact ⟨rfl, But.refl _ _⟩
  · refine (Tryd.strconv_Itoa (n : Int) (by omega) (by omega) w hc).mono ?_
    rintro e w' ⟨rfl, k, os, rfl⟩
    refine ⟨?_, But.of_new (below_grow _ _ _)⟩
    unfold Lib.itoa
    rw [if_neg (by omega), Int.toNat_natCast]
    rfl
theorem dec_len (n : Nat) : (dec n).length ≤ n + 1 := by
  unfold dec
  induction n using Nat.strongRecOn with
  | _ n ih =>
    rw [Lib.decDigits]
    split
    · exact Nat.succ_le_succ (Nat.zero_le _)
    · rename_i h
      have := ih (n / 10) (by omega)
      rw [List.length_append, List.length_singleton]
      omega
def colon : ByteArray := ⟨#[58]⟩
def txt : Option Ent → ByteArray
  | none => nothing
  | some e => ((⟨(dec e.key.size).toArray⟩ : ByteArray) ++ colon) ++ e.key
/- The first k places' texts. -/
def texts (T : Tab) (n k : Nat) : List Value := (List.range n).map fun j => .string (if j < k then txt (look T j) else nothing)
theorem texts_length (T : Tab) (n k : Nat) : (texts T n k).length = n := by simp [texts]
theorem texts_zero (T : Tab) (n : Nat) : texts T n 0 = List.replicate n (.string nothing) := by
  unfold texts
  apply List.ext_getElem
  · simp
  · intro i h1 h2
    simp
theorem texts_get (T : Tab) (n k i : Nat) (h : i < n) : (texts T n k)[i]? = some (.string (if i < k then txt (look T i) else nothing)) := by
  unfold texts
  rw [List.getElem?_map, List.getElem?_range h]
  rfl
theorem texts_set (T : Tab) (n k : Nat) (h : k < n) : (texts T n k).set k (.string (txt (look T k))) = texts T n (k + 1) := by
  apply List.ext_getElem?
  intro i
  rw [List.getElem?_set, texts_length]
  by_cases hi : i < n
  · rw [texts_get T n k i hi, texts_get T n (k + 1) i hi]
    by_cases hik : k = i
    · subst hik
      rw [if_pos rfl, if_pos hi, if_pos (by omega)]
    · rw [if_neg hik]
      by_cases h3 : i < k
      · rw [if_pos h3, if_pos (by omega)]
      · rw [if_neg h3, if_neg (by omega)]
  · rw [if_neg (by omega), List.getElem?_eq_none (by rw [texts_length]; omega), List.getElem?_eq_none (by rw [texts_length]; omega)]
theorem texts_step (T : Tab) (n k : Nat) (h : look T k = none) : texts T n (k + 1) = texts T n k := by
  unfold texts
  apply List.map_congr_left
  intro j _
  by_cases hjk : j = k
  · subst hjk; simp [h, txt]
  · by_cases h3 : j < k
    · rw [if_pos h3, if_pos (by omega)]
    · rw [if_neg h3, if_neg (by omega)]
end Go.Proofs.YtabclecfamkanaaDoor.Key
