/- A sort of no elements: nothing turns. What an iterator gives, collected. -/
import Derived.Test.YtomeehecegehbaaLdSeq
import Derived.Test.YtomeehecegehbaaLdLib
namespace Go.Proofs.Ytomeehecegehbaa.Ld
open Go.Proofs.Ytomeehecegehbaa.Mem
open Go.RowKit Go.Sort
set_option linter.unusedVariables false
set_option linter.unusedSimpArgs false
set_option maxRecDepth 100000 in
set_option maxHeartbeats 1000000 in
theorem ins_none (p : Option Addr) (cap : Nat) (fv : Value) (w : World) : Calls Try.prog 29 #[.slice p 0 cap, .int .i64 0, .int .i64 0, fv] w fun e w' => e = .returned (.tuple #[]) ∧ w = w' := by
  go_enter Try.func29, Try.ntmps29
  go_wp2
  go_loopw [8] (fun v wr => v = .int .i64 1 ∧ w = wr) (fun v _ => 0)
  case atStart => exact ⟨rfl, rfl⟩
  case round =>
    obtain ⟨rfl, rfl⟩ := hrel
    go_wp2
    go_end0
    exact ⟨rfl, rfl⟩
set_option maxRecDepth 100000 in
set_option maxHeartbeats 1000000 in
theorem pdq_none (p : Option Addr) (cap : Nat) (fv : Value) (w : World) : Calls Try.prog 24 #[.slice p 0 cap, .int .i64 0, .int .i64 0, .int .i64 0, fv] w fun e w' => e = .returned (.tuple #[]) ∧ w = w' := by
  have HI := Lib.hid (ins_none p cap fv)
  go_enter Try.func24, Try.ntmps24
  go_wp2
  go_loopw [1, 2, 3, 10, 11] (fun s1 s2 s3 s8 s9 wr => s1 = .int .i64 0 ∧ s2 = .int .i64 0 ∧ s3 = .int .i64 0 ∧ s8 = .bool true ∧ s9 = .bool true ∧ w = wr) (fun _ _ _ _ _ _ => 0)
  case atStart => exact ⟨rfl, rfl, rfl, rfl, rfl, rfl⟩
  case round =>
    obtain ⟨rfl, rfl, rfl, rfl, rfl, rfl⟩ := hrel
    go_wp2_with (first | (go_at_call 29; refine (HI.out _).mono ?_; rintro e w1 ⟨rfl, rfl⟩))
    (try simp only [Exit.inBlock, Exit.then]); refine bodyPost_ret (results_none rfl _ _ _) rfl ?_
    exact ⟨rfl, rfl⟩
set_option maxRecDepth 100000 in
set_option maxHeartbeats 1000000 in
theorem sort_none (p : Option Addr) (cap : Nat) (fv : Value) (w : World) : Calls Try.prog 16 #[.slice p 0 cap, fv] w fun e w' => e = .returned (.tuple #[]) ∧ w = w' := by
  have HL := Lib.hid (fun w => Try.bits_Len 0 w (by omega) (by omega))
  have HP := Lib.hid (pdq_none p cap fv)
  go_enter Try.func16, Try.ntmps16
  go_wp2_with (first
    | (go_at_call 25; refine (HL.out _).mono ?_; rintro e w1 ⟨rfl, rfl⟩)
    | (go_at_call 24; refine (HP.out _).mono ?_; rintro e w1 ⟨rfl, rfl⟩))
  go_end0
  exact ⟨rfl, rfl⟩
def it : Nat := 23
set_option maxRecDepth 100000 in
set_option maxHeartbeats 1000000 in
theorem gather_any {g : Nat} {lb : Array Value} (eg : ∀ args w, (callFunc g args).run Try.prog w = .ok (.enter g args) w) (S : List Int → Prop) (N : Nat) (hN : N ≤ 1000000) (w : World) (hseq : SeqGives Fence.wide 4 Try.prog g lb enc S N w) :
    Calls Try.prog 14 #[.func (.func g) #[] lb] w fun e w' => ∃ (v : Value) (ss : List Int), e = .returned v ∧ S ss ∧ w'.ownsRow w.heap.size 3 1 v ss.length (ss.map enc) ∧ Below w.heap.size w w' := by
  have HC := Lib.hid (callsIn_wide.1 (collect_in 5 (by omega) g lb eg S N hN w hseq))
  clear hseq
  go_enter Try.func14, Try.ntmps14
  go_wp2_with (first | (go_at_call 22; refine HC.out.mono ?_; rintro e w1 ⟨v, ss, rfl, hS, hr, hb⟩))
  go_ret
  exact ⟨v, ss, rfl, hS, hr, hb⟩
set_option maxRecDepth 100000 in
set_option maxHeartbeats 1000000 in
theorem gather_keys {H : Type} {R : Value → Option (DataW H × List MemPlace)} {b nn : Nat} {D : DataW H} {w : World} (hown : w.ownsMap Try.prog 3 R b nn D) (hs : Maps.size D ≤ 1000000) :
    Calls Try.prog 14 #[.func (.func it) #[] #[.pointer (some ⟨w.heap.size, 0, none⟩)]] (w.alloc (.cells #[.map (some b)] 42)) fun e w' => ∃ (v : Value) (ss : List Int), e = .returned v ∧ All D ss ∧
      w'.ownsRow w.heap.size 3 1 v ss.length (ss.map enc) ∧ But (fun _ => False) w w' := by
  have hbl := hown.lt
  have hseq : SeqGives Fence.wide 4 Try.prog it #[.pointer (some ⟨w.heap.size, 0, none⟩)] enc (All D) (Maps.size D) (w.alloc (.cells #[.map (some b)] 42)) := fun l J W hW hJ hY h0 => by
    have hown' : W.ownsMap Try.prog 3 R b nn D := by
      obtain ⟨es, clock, hb, F, hs, hD⟩ := hown
      exact ⟨es, clock, (hW.block b (by simp; omega)).trans ((Below.heap_alloc _ _ b hbl).trans hb), F, hs, hD⟩
    have hm : W.cell? ⟨w.heap.size, 0, none⟩ = some (.map (some b)) := (hW.cell (p := ⟨w.heap.size, 0, none⟩) (by simp)).trans (by simp)
    exact iter_in 4 (by omega) l w.heap.size b nn D J hY W hJ hm hown' h0
  refine (gather_any (g := it) (enters_of Try.func23 (by kernel_rfl) rfl) (All D) (Maps.size D) hs _ hseq).mono ?_
  rintro e w' ⟨v, ss, rfl, hA, hr, hb⟩
  have hsz : (w.alloc (.cells #[.map (some b)] 42)).heap.size = w.heap.size + 1 := by simp
  refine ⟨v, ss, rfl, hA, ?_, (((But.refl (fun _ => False) w).alloc _).trans' (But.of_new hb))⟩
  rw [hsz] at hr
  rcases hr with ⟨h1, h2⟩
  exact ⟨h1, h2.imp id (fun ⟨g, cap, cur, e, hg, r⟩ => ⟨g, cap, cur, e, by omega, r⟩)⟩
end Go.Proofs.Ytomeehecegehbaa.Ld
