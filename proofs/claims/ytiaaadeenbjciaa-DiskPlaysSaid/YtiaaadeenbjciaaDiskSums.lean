/- How many bytes all files have behind each call. -/
import Derived.Test.YtiaaadeenbjciaaDiskEffect
namespace Go.Proofs.Ytiaaadeenbjciaa.Disk
open Go.Proofs.Ytiaaadeenbjciaa.Mem Go.RowKit
set_option linter.unusedVariables false
theorem used_crash (kp : Int) (S : St) : used (crash kp S) ≤ used S := by
  show total _ (mapv (trunc kp) S.files) ≤ _
  rw [total_mapv]
  exact total_mono (fun a => by show (a.bytes.take _).length ≤ a.bytes.length; rw [List.length_take]; omega) _
theorem effect_rec {S : St} {k : St → St} {P : Int × St → Prop} (h1 : ∀ kp, now S = some kp → P (15, crash kp S)) (h2 : now S = none → P (0, k (stepS S))) : P (effect S k) := by
  rcases hn : now S with _ | kp
  · rw [effect_done hn]; exact h2 hn
  · rw [effect_crash hn]; exact h1 kp hn
/- The capacity stays, and so many bytes may come. -/
def Grows (S T : St) (m : Nat) : Prop := T.cap = S.cap ∧ used T ≤ used S + m ∧ ((used S : Int) ≤ S.cap → (used T : Int) ≤ T.cap)
theorem Grows.refl (S : St) (m : Nat) : Grows S S m := ⟨rfl, Nat.le_add_right _ _, fun h => h⟩
theorem Grows.of_le {S T : St} {m : Nat} (hc : T.cap = S.cap) (h : used T ≤ used S) : Grows S T m := ⟨hc, by omega, fun h2 => by rw [hc]; omega⟩
theorem grows_create (S : St) (n : Nm) : Grows S (create S n).2 0 := by
  unfold create
  split
  · exact .refl _ _
  · split
    · exact .refl _ _
    · split
      · exact .refl _ _
      · refine effect_rec (P := fun x => Grows S x.2 0) (fun kp _ => .of_le rfl (used_crash kp S)) (fun _ => .of_le rfl ?_)
        show total _ (ins n ⟨[], 0⟩ S.files) ≤ _
        rw [total_ins]
        exact Nat.le_of_eq (Nat.zero_add _)
theorem grows_append (S : St) (n : Nm) (z : List Int) (ha : Apart S.files) : Grows S (append S n z).2 z.length := by
  unfold append
  split
  · exact .refl _ _
  · split
    · exact .refl _ _
    · split
      · exact .refl _ _
      · next h1 h2 h3 =>
        refine effect_rec (P := fun x => Grows S x.2 z.length) (fun kp _ => .of_le rfl (used_crash kp S)) (fun _ => ?_)
        rcases hl : look n S.files with _ | f
        · rw [hl] at h2; exact absurd rfl h2
        · have h4 := total_upd (f := fun f : File => f.bytes.length) (h := fun f => ⟨f.bytes ++ z, f.synced⟩) ha hl
          have h5 : used { stepS S with files := upd n (fun f => ⟨f.bytes ++ z, f.synced⟩) (stepS S).files } = used S + z.length := by
            show total (fun f : File => f.bytes.length) (upd n (fun f => ⟨f.bytes ++ z, f.synced⟩) S.files) = total (fun f : File => f.bytes.length) S.files + z.length
            simp only [List.length_append] at h4
            omega
          exact ⟨rfl, by rw [h5]; exact Nat.le_refl _, fun _ => by rw [h5]; show _ ≤ S.cap; omega⟩
end Go.Proofs.Ytiaaadeenbjciaa.Disk
