/- Contracts of the document's Add and Texts, and of the law's small. -/
import Derived.Test.YtbhoknnjilidnaaFoldMem
import Derived.Laws.Cover1
namespace Go.Proofs.Ytbhoknnjilidnaa.Fold
open Go.Proofs.Ytbhoknnjilidnaa.Mem
open Go.ChangeShapes Go.WideShapes Go.ChangeAt Go.RowKit
open Go.Proofs (encStr)
set_option linter.unusedVariables false
set_option linter.unusedSimpArgs false
section
variable {w : World} {a : Option Addr} {ks : List K} {c : Nat}
theorem place_take {l : List K} {s : K} {i : Nat} (h : ∀ j (h : j < l.length), j < i → l[j] < s) (hi : i < l.length) (hn : ¬ l[i] < s) : place l s = i :=
  place_of h (by omega) (fun _ => hn)
set_option maxRecDepth 100000 in
set_option maxHeartbeats 1000000 in
theorem small_any (hk : Ks w a ks) (hl : ks.length ≤ 9223372036854775807) :
    Calls Try.prog 6 #[.slice a ks.length c] w fun e w' => e = .returned (.bool (decide ((∀ k ∈ ks, k.length ≤ 200) ∧ ks.length ≤ 200))) ∧ w' = w := by
  have HK := Lib.hid hk
  obtain ⟨n, hn⟩ : ∃ n, n = ks.length := ⟨_, rfl⟩
  rw [← hn] at hl ⊢
  have HN := Lib.hid hn
  clear hk hn
  go_enter Try.func6, Try.ntmps6
  go_wp2_with fail
  go_loopw [3] (fun v wr => ∃ i : Nat, v = .int .i64 (i : Int) ∧ i ≤ n ∧ (∀ j (h : j < ks.length), j < i → ks[j].length ≤ 200) ∧ wr = w) (fun v _ => n - (intOf v).toNat)
  case atStart => exact ⟨0, rfl, by omega, fun j _ h => by omega, rfl⟩
  case round =>
    obtain ⟨i, rfl, hi, hs, rfl⟩ := hrel
    by_cases hlt : i < n
    · have hi2 : i < ks.length := by rw [← HN.out]; exact hlt
      obtain ⟨b, off, rfl, hb, hc⟩ := HK.out (by omega)
      have c0 := hc i hi2
      obtain ⟨y, hy⟩ : ∃ y, y = tx ks[i] := ⟨_, rfl⟩
      rw [← hy] at c0
      have hsz : y.size = ks[i].length := by rw [hy]; rfl
      have HSZ := Lib.hid hsz
      have HS := Lib.hid hs
      clear hc hs hy hsz
      by_cases h200 : y.size ≤ 200
      · have t1 : decide ((200 : Int) < (y.size : Int)) = false := decide_eq_false (by omega)
        go_wp2_with fail
        go_roundw
        case rel =>
          refine ⟨i + 1, by simp, by omega, fun j h hj => ?_, by trivial⟩
          by_cases e : j = i
          · subst e; rw [← HSZ.out]; exact h200
          · exact HS.out j h (by omega)
        case measure => simp [intOf]; omega
      · have t1 : decide ((200 : Int) < (y.size : Int)) = true := decide_eq_true (by omega)
        go_wp2_with fail
        go_ret
        refine ⟨?_, rfl⟩
        show Ending.returned (.bool false) = _
        rw [decide_eq_false]
        rintro ⟨h1, _⟩
        have := h1 _ (List.getElem_mem hi2)
        rw [← HSZ.out] at this
        omega
    · have hin : i = n := by omega
      subst hin
      have HS := Lib.hid hs
      clear hs
      go_wp2_with fail
      go_ret
      refine ⟨?_, rfl⟩
      have h1 : (∀ k ∈ ks, k.length ≤ 200) := fun k hk => by
        obtain ⟨j, hj, rfl⟩ := List.mem_iff_getElem.1 hk
        exact HS.out j hj (by rw [HN.out]; exact hj)
      have hN := HN.out
      refine congrArg (fun b => Ending.returned (.bool b)) ?_
      exact decide_eq_decide.2 ⟨fun h => ⟨h1, by omega⟩, fun h => by have := h.2; omega⟩
set_option maxRecDepth 100000 in
set_option maxHeartbeats 1000000 in
theorem texts_same {a' : Option Addr} {c' : Nat} (hk : Ks w a ks) (hk' : Ks w a' ks) (hl : ks.length ≤ 9223372036854775807) :
    Calls Try.prog 10 #[.slice a ks.length c, .slice a' ks.length c'] w fun e w' => e = .returned (.bool true) ∧ ∃ q, w' = w.drewN q := by
  have HK := Lib.hid (And.intro hk hk')
  obtain ⟨n, hn⟩ : ∃ n, n = ks.length := ⟨_, rfl⟩
  rw [← hn] at hl ⊢
  have HN := Lib.hid hn
  clear hk hk' hn
  go_enter Try.func10, Try.ntmps10
  go_wp2_with fail
  go_loopw [5] (fun v wr => ∃ i : Nat, v = .int .i64 (i : Int) ∧ i ≤ n ∧ ∃ q, wr = w.drewN q) (fun v _ => n - (intOf v).toNat)
  case atStart => exact ⟨0, rfl, by omega, 0, rfl⟩
  case round =>
    obtain ⟨i, rfl, hi, q, hq⟩ := hrel
    by_cases hlt : i < n
    · have hi2 : i < ks.length := by rw [← HN.out]; exact hlt
      obtain ⟨b, off, rfl, hb, hc⟩ := HK.out.1 (by omega)
      obtain ⟨b', off', rfl, hb', hc'⟩ := HK.out.2 (by omega)
      obtain ⟨y, hy⟩ : ∃ y, y = tx ks[i] := ⟨_, rfl⟩
      have c0 : ∀ nq, (wr.drewN nq).cell? ⟨b, off + i, none⟩ = some (.string y) := fun nq => by rw [hq, hy]; exact hc i hi2
      have c1 : ∀ nq, (wr.drewN nq).cell? ⟨b', off' + i, none⟩ = some (.string y) := fun nq => by rw [hq, hy]; exact hc' i hi2
      have HQ := Lib.hid hq
      clear hc hc' hy hq
      go_wp2_with fail
      go_quiet (fail)
      obtain ⟨W, hW⟩ : ∃ W, W = wr.drewN nq := ⟨_, rfl⟩
      rw [← hW]
      have HW := Lib.hid (show ∃ q, W = w.drewN q from ⟨q + nq, by rw [hW, HQ.out, World.drewN_drewN]⟩)
      clear c0 c1 hW
      go_wp2_with fail
      go_roundw
      case rel => exact ⟨i + 1, by simp, by omega, HW.out⟩
      case measure => simp [intOf]; omega
    · have hin : i = n := by omega
      subst hin
      go_wp2_with fail
      go_ret
      exact ⟨rfl, q, rfl⟩
end
end Go.Proofs.Ytbhoknnjilidnaa.Fold
