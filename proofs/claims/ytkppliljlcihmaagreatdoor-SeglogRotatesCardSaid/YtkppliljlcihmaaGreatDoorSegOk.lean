/- What stays so of a disk, whatever is called: its names rise, and it holds no more than it may. -/
import Derived.Test.YtkppliljlcihmaaGreatDoorGK
import Derived.Test.YtkppliljlcihmaaGreatDoorDiskList
namespace Go.Proofs.YtkppliljlcihmaaGreatDoor.Seg
open Go.Proofs.YtkppliljlcihmaaGreatDoor.Mem
open Go.Proofs.YtkppliljlcihmaaGreatDoor.Disk (Nm File St Eff Fs Apart Rising ins del upd mapv moved tot trunc run effect_rec call_eq crash stepS now used)
set_option linter.unusedVariables false

structure Ok (S : St) : Prop where
  rising : Rising S.files
  used : used S ≤ 1000000
  cap : S.cap ≤ 1000000
  many : S.files.length ≤ 1000
section
variable {α β : Type}
theorem rising_ins {n : Nm} {a : α} {l : List (Nm × α)} (h : Rising l) (hn : Disk.look n l = none) : Rising (ins n a l) := by
  induction l with
  | nil => exact List.pairwise_singleton _ _
  | cons x r ih =>
    obtain ⟨h1, h2⟩ := List.pairwise_cons.1 h
    have hx : x.1 ≠ n := Disk.look_none.1 hn x List.mem_cons_self
    have hr : Disk.look n r = none := Disk.look_none.2 (fun y hy => Disk.look_none.1 hn y (List.mem_cons_of_mem _ hy))
    unfold ins
    split
    · rename_i hlt
      refine List.pairwise_cons.2 ⟨fun y hy => ?_, ih h2 hr⟩
      rcases Disk.mem_ins.1 hy with rfl | hy
      · exact hlt
      · exact h1 y hy
    · rename_i hlt
      have hlt2 : n < x.1 := by
        rcases List.le_iff_lt_or_eq.1 (List.not_lt.1 hlt) with h3 | h3
        · exact h3
        · exact absurd h3.symm hx
      refine List.pairwise_cons.2 ⟨fun y hy => ?_, h⟩
      rcases List.mem_cons.1 hy with rfl | hy
      · exact hlt2
      · exact List.lt_trans hlt2 (h1 y hy)
theorem rising_del {l : List (Nm × α)} (h : Rising l) (n : Nm) : Rising (del n l) := h.filter _
theorem rising_upd {l : List (Nm × α)} (h : Rising l) (n : Nm) (f : α → α) : Rising (upd n f l) := by
  refine List.pairwise_map.2 (h.imp fun {x y} hne => ?_)
  split <;> split <;> exact hne
theorem rising_mapv {l : List (Nm × α)} (h : Rising l) (f : α → β) : Rising (mapv f l) := List.pairwise_map.2 h
theorem rising_of_mapv {l : List (Nm × α)} {f : α → β} (h : Rising (mapv f l)) : Rising l := by
  have h1 := List.pairwise_map.1 h
  exact h1
end
theorem rising_on {cap : Int} {x : Eff} {l : Fs} (hm : x.may cap l) (h : Rising l) : Rising (x.on l) := by
  cases x with
  | new n => exact rising_ins h hm.1
  | add n b => exact rising_upd h n (fun f => ⟨f.bytes ++ b, f.synced⟩)
  | syn n => exact rising_upd h n (fun f => ⟨f.bytes, f.bytes.length⟩)
  | short n k => exact rising_upd h n (fun f => ⟨f.bytes.take k, min f.synced k⟩)
  | move n m =>
    show Rising (moved n m l)
    unfold moved
    split
    · exact rising_ins (rising_del (rising_del h n) m) Disk.look_del_same
    · exact h
  | gone n => exact rising_del h n
theorem may_mayV {cap : Int} {x : Eff} {l : Fs} (h : x.may cap l) : mayV x (fun k => Disk.look k l) := by
  cases x with
  | new n => exact h.1
  | add n b => exact h.1
  | syn n => exact h
  | short n k => exact h
  | move n m => exact h
  | gone n => exact h
theorem call_not (x : Eff) (S : St) (h : ¬ (S.down = false ∧ x.may S.cap S.files)) : (x.call S).2 = S ∧ (x.call S).1 ≠ 0 := by
  by_cases hd : S.down = true
  · cases x <;> simp [Eff.call, Disk.create, Disk.append, Disk.sync, Disk.cut, Disk.rename, Disk.delete, hd]
  · have hd' : S.down = false := by simpa using hd
    have hm : ¬ x.may S.cap S.files := fun hm => h ⟨hd', hm⟩
    cases x with
    | new n =>
      replace hm := Classical.not_and_iff_not_or_not.1 hm
      show (Disk.create S n).2 = S ∧ (Disk.create S n).1 ≠ 0
      unfold Disk.create
      rw [hd', if_neg (by simp)]
      by_cases h1 : (Disk.look n S.files).isSome = true
      · rw [if_pos h1]; exact ⟨rfl, by simp⟩
      · have h1' : Disk.look n S.files = none := by simpa using h1
        rw [if_neg h1]
        by_cases h2 : 1000 ≤ S.files.length
        · rw [if_pos h2]; exact ⟨rfl, by simp⟩
        · rcases hm with hm | hm
          · exact absurd h1' hm
          · omega
    | add n b =>
      replace hm := Classical.not_and_iff_not_or_not.1 hm
      show (Disk.append S n b).2 = S ∧ (Disk.append S n b).1 ≠ 0
      unfold Disk.append
      rw [hd', if_neg (by simp)]
      by_cases h1 : (Disk.look n S.files).isNone = true
      · rw [if_pos h1]; exact ⟨rfl, by simp⟩
      · rw [if_neg h1]
        have h1' : (Disk.look n S.files).isSome = true := by cases e : Disk.look n S.files <;> simp_all
        by_cases h2 : S.cap < ((used S + b.length : Nat) : Int)
        · rw [if_pos h2]; exact ⟨rfl, by simp⟩
        · rcases hm with hm | hm
          · exact absurd h1' hm
          · unfold Disk.used at h2
            unfold Disk.tot at hm
            omega
    | syn n =>
      have h1 : (Disk.look n S.files).isNone = true := by
        have : ¬ (Disk.look n S.files).isSome = true := hm
        cases e : Disk.look n S.files <;> simp_all
      show (Disk.sync S n).2 = S ∧ (Disk.sync S n).1 ≠ 0
      unfold Disk.sync
      rw [hd', if_neg (by simp), if_pos h1]; exact ⟨rfl, by simp⟩
    | short n k =>
      show (Disk.cut S n k).2 = S ∧ (Disk.cut S n k).1 ≠ 0
      unfold Disk.cut
      rw [hd', if_neg (by simp)]
      cases e : Disk.look n S.files with
      | none => exact ⟨rfl, by simp⟩
      | some f =>
        simp only
        have h2 : ¬ k ≤ f.bytes.length := fun hk => hm ⟨f, e, hk⟩
        rw [if_pos (by omega)]; exact ⟨rfl, by simp⟩
    | move n m =>
      have h1 : (Disk.look n S.files).isNone = true := by
        have : ¬ (Disk.look n S.files).isSome = true := hm
        cases e : Disk.look n S.files <;> simp_all
      show (Disk.rename S n m).2 = S ∧ (Disk.rename S n m).1 ≠ 0
      unfold Disk.rename
      rw [hd', if_neg (by simp), if_pos h1]; exact ⟨rfl, by simp⟩
    | gone n =>
      have h1 : (Disk.look n S.files).isNone = true := by
        have : ¬ (Disk.look n S.files).isSome = true := hm
        cases e : Disk.look n S.files <;> simp_all
      show (Disk.delete S n).2 = S ∧ (Disk.delete S n).1 ≠ 0
      unfold Disk.delete
      rw [hd', if_neg (by simp), if_pos h1]; exact ⟨rfl, by simp⟩
theorem ok_call (x : Eff) {S : St} (h : Ok S) : Ok (x.call S).2 := by
  by_cases hm : S.down = false ∧ x.may S.cap S.files
  · rw [call_eq x S hm.1 hm.2]
    obtain ⟨g1, g2⟩ := grown1 h.rising.apart (may_mayV hm.2)
    refine effect_rec (P := fun r => Ok r.2) (fun kp _ => ⟨rising_mapv h.rising _, Nat.le_trans (Disk.used_crash kp S) h.used, h.cap, ?_⟩) (fun _ => ⟨rising_on hm.2 h.rising, ?_, h.cap, ?_⟩)
    · show (mapv (trunc kp) S.files).length ≤ 1000
      rw [Disk.length_mapv]; exact h.many
    · show tot (x.on S.files) ≤ 1000000
      have h1 : tot S.files ≤ 1000000 := h.used
      have h2 := h.cap
      cases x with
      | add n b => have := hm.2.2; have e : add1 (.add n b) = b.length := rfl; omega
      | new n => have e : add1 (.new n) = 0 := rfl; omega
      | syn n => have e : add1 (.syn n) = 0 := rfl; omega
      | short n k => have e : add1 (.short n k) = 0 := rfl; omega
      | move n m => have e : add1 (.move n m) = 0 := rfl; omega
      | gone n => have e : add1 (.gone n) = 0 := rfl; omega
    · show (x.on S.files).length ≤ 1000
      have h1 := h.many
      cases x with
      | new n => have := hm.2.2; have e : new1 (.new n) = 1 := rfl; omega
      | add n b => have e : new1 (.add n b) = 0 := rfl; omega
      | syn n => have e : new1 (.syn n) = 0 := rfl; omega
      | short n k => have e : new1 (.short n k) = 0 := rfl; omega
      | move n m => have e : new1 (.move n m) = 0 := rfl; omega
      | gone n => have e : new1 (.gone n) = 0 := rfl; omega
  · rw [(call_not x S hm).1]; exact h
theorem ok_run (xs : List Eff) {S : St} (h : Ok S) : Ok (run xs S).2 := by
  induction xs generalizing S with
  | nil => exact h
  | cons x r ih =>
    show Ok (if (x.call S).1 = 0 then run r (x.call S).2 else x.call S).2
    split
    · exact ih (ok_call x h)
    · exact ok_call x h
theorem run_one (x : Eff) (S : St) : run [x] S = x.call S := by
  show (if (x.call S).1 = 0 then run [] (x.call S).2 else x.call S) = _
  split
  · rename_i h
    show ((0 : Int), (x.call S).2) = x.call S
    rw [← h]
  · rfl
theorem run_cons_ok {x : Eff} {r : List Eff} {S : St} (h : (x.call S).1 = 0) : run (x :: r) S = run r (x.call S).2 := if_pos h
theorem run_cons_err {x : Eff} {r : List Eff} {S : St} (h : (x.call S).1 ≠ 0) : run (x :: r) S = x.call S := if_neg h
theorem run_app_ok {a b : List Eff} {S : St} (h : (run a S).1 = 0) : run (a ++ b) S = run b (run a S).2 := by rw [Disk.run_app, if_pos h]
theorem run_app_err {a b : List Eff} {S : St} (h : (run a S).1 ≠ 0) : run (a ++ b) S = run a S := by rw [Disk.run_app, if_neg h]
theorem ok_fresh {cap : Int} (h : cap ≤ 1000000) : Ok (Disk.fresh cap) := ⟨List.Pairwise.nil, by show (0 : Nat) ≤ _; omega, h, by show (0 : Nat) ≤ _; omega⟩
theorem ok_planned {S : St} (h : Ok S) (l k : Int) : Ok (Disk.planned S l k) := ⟨h.rising, h.used, h.cap, h.many⟩
theorem ok_opened {S : St} (h : Ok S) : Ok (Disk.opened S) := ⟨h.rising, h.used, h.cap, h.many⟩
end Go.Proofs.YtkppliljlcihmaaGreatDoor.Seg
