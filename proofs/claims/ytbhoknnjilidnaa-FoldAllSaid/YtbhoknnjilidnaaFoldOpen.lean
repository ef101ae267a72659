/- Keys that came in. -/
import Derived.Test.YtbhoknnjilidnaaFoldMem
import Derived.SliceStrings
import Derived.OpenShut
namespace Go.Proofs.Ytbhoknnjilidnaa.Fold
open Go.Proofs.Ytbhoknnjilidnaa.Mem
open Go.ChangeShapes Go.WideShapes Go.ChangeAt Go.RowKit
set_option linter.unusedVariables false
set_option linter.unusedSimpArgs false
section
variable {H : Type} {enc : TypeId × Value → H} {w : World}
theorem keys_read {fuel : Nat} {v : Value} {y : DataW H × List MemPlace} (h : DataW.trod enc Try.prog w 0 (fun _ => true) true fuel 22 [v] = some y) :
    ∃ (a : Option Addr) (ks : List K) (cap : Nat), v = .slice a ks.length cap ∧ Ks w a ks ∧ ks.length ≤ cap ∧ cap ≤ maxLen := by
  have hsz : Try.prog.cellsOf 9 = 1 := by kernel_rfl
  rcases open_strings Try.underlying22 Try.underlying9 hsz h with ⟨hcs, _⟩ | ⟨x, len, cap, ss, hcs, _, hl, hm, hz, _, hc, _⟩
  · injection hcs with hv _
    exact ⟨none, [], 0, hv, fun h => absurd h (by simp), Nat.le_refl _, Nat.zero_le _⟩
  · injection hcs with hv _
    have hzl : ss.length = cap := by simpa using hz
    have hlen : ((ss.take len).map (fun s => s.data.toList)).length = len := by rw [List.length_map, List.length_take]; omega
    refine ⟨some x, (ss.take len).map (fun s => s.data.toList), cap, by rw [hlen]; exact hv, fun hn => ?_, by rw [hlen]; exact hl, hm⟩
    rw [hlen] at hn
    obtain ⟨b, off, spot⟩ := x
    have h0 := hc 0 (by omega)
    have hspot : spot = none := by simpa [Addr.add] using World.cell?_spot h0
    subst hspot
    refine ⟨b, off, rfl, block_lt_of_cell (a := ⟨b, off, none⟩) (by simpa [Addr.add] using h0), fun i hi => ?_⟩
    rw [hlen] at hi
    have h1 := hc i (by omega)
    rw [add_none] at h1
    rw [h1]
    simp only [List.getElem_map, List.getElem_take, tx_of]
    simp [List.getD, show i < ss.length by omega]
theorem key_read {fuel : Nat} {v : Value} {y : DataW H × List MemPlace} (h : DataW.trod enc Try.prog w 0 (fun _ => true) true fuel 9 [v] = some y) : ∃ k : K, v = .string (tx k) := by
  obtain ⟨s, hs, _, _⟩ := DataW.trod_string Try.underlying9 h
  injection hs with hs _
  exact ⟨s.data.toList, by rw [tx_of]; exact hs⟩
theorem bool_read {fuel : Nat} {v : Value} {y : DataW H × List MemPlace} (h : DataW.trod enc Try.prog w 0 (fun _ => true) true fuel 4 [v] = some y) : ∃ b : Bool, v = .bool b := by
  obtain ⟨b, hs, _⟩ := DataW.trod_bool Try.underlying4 h
  injection hs with hs _
  exact ⟨b, hs⟩
theorem int_read {fuel : Nat} {v : Value} {y : DataW H × List MemPlace} (h : DataW.trod enc Try.prog w 0 (fun _ => true) true fuel 3 [v] = some y) : ∃ n : Int, v = .int .i64 n ∧ -9223372036854775808 ≤ n ∧ n ≤ 9223372036854775807 := by
  obtain ⟨n, hs, _, hw⟩ := DataW.trod_int Try.underlying3 h
  injection hs with hs _
  exact ⟨n, hs, by simpa [Lit.wf, IntKind.min, IntKind.max, IntKind.signed, IntKind.bits] using hw⟩
end
end Go.Proofs.Ytbhoknnjilidnaa.Fold
