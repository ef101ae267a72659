/- slices.Sorted(maps.Keys(m)), the keys of uint32: a new slice of the keys, rising. -/
import Derived.Test.YtciplhpnbpmfeaaSortSeq
namespace Go.Proofs.Ytciplhpnbpmfeaa.Srt
open Go.Proofs.Ytciplhpnbpmfeaa.Mem
open Go.RowKit Go.Sort Go.Shelf
set_option linter.unusedVariables false
set_option linter.unusedSimpArgs false
def it : Nat := 22
set_option maxRecDepth 100000 in
set_option maxHeartbeats 1000000 in
theorem gather_any {g : Nat} {lb : Array Value} (eg : ∀ args w, (callFunc g args).run Try.prog w = .ok (.enter g args) w) (S : List Int → Prop) (N : Nat) (hN : N ≤ 1000000) (w : World) (hseq : SeqGives Fence.wide 4 Try.prog g lb enc S N w) :
    Calls Try.prog 20 #[.func (.func g) #[] lb] w fun e w' => ∃ (v : Value) (ss : List Int), e = .returned v ∧ S ss ∧ w'.ownsRow w.heap.size 28 1 v ss.length (ss.map enc) ∧ Below w.heap.size w w' := by
  have HC := Lib.hid (callsIn_wide.1 (collect_in 5 (by omega) g lb eg S N hN w hseq))
  clear hseq
  go_enter Try.func20, Try.ntmps20
  go_wp2_with (first | (go_at_call 23; refine HC.out.mono ?_; rintro e w1 ⟨v, ss, rfl, hS, hr, hb⟩))
  go_ret
  exact ⟨v, ss, rfl, hS, hr, hb⟩
set_option maxRecDepth 100000 in
set_option maxHeartbeats 1000000 in
theorem sorted_any {H : Type} {R : Value → Option (DataW H × List MemPlace)} {b nn : Nat} {D : DataW H} {w : World} (hown : w.ownsMap Try.prog 28 R b nn D) (hs : Maps.size D ≤ 1000000) :
    Calls Try.prog 18 #[.func (.func it) #[] #[.pointer (some ⟨w.heap.size, 0, none⟩)]] (w.alloc (.cells #[.map (some b)] 49)) fun e w' => ∃ (v : Value) (ss : List Int), e = .returned v ∧ All D ss ∧
      w'.ownsRow w.heap.size 28 1 v ss.length ((up ss).map enc) ∧ But (fun _ => False) w w' := by
  have hbl := hown.lt
  have hseq : SeqGives Fence.wide 4 Try.prog it #[.pointer (some ⟨w.heap.size, 0, none⟩)] enc (All D) (Maps.size D) (w.alloc (.cells #[.map (some b)] 49)) := fun l J W hW hJ hY h0 => by
    have hown' : W.ownsMap Try.prog 28 R b nn D := by
      obtain ⟨es, clock, hb, F, hs, hD⟩ := hown
      exact ⟨es, clock, (hW.block b (by simp; omega)).trans ((Below.heap_alloc _ _ b hbl).trans hb), F, hs, hD⟩
    have hm : W.cell? ⟨w.heap.size, 0, none⟩ = some (.map (some b)) := (hW.cell (p := ⟨w.heap.size, 0, none⟩) (by simp)).trans (by simp)
    exact iter_in 4 (by omega) l w.heap.size b nn D J hY W hJ hm hown' h0
  have HG := Lib.hid (gather_any (g := it) (enters_of Try.func22 (by kernel_rfl) rfl) (All D) (Maps.size D) hs _ hseq)
  have HB := Lib.hid ((But.refl (fun _ => False) w).alloc (.cells #[.map (some b)] 49))
  obtain ⟨B, hB⟩ : ∃ B, B = w.heap.size := ⟨_, rfl⟩
  rw [← hB] at HG ⊢
  have hB1 : (w.alloc (.cells #[.map (some b)] 49)).heap.size = B + 1 := by simp [hB]
  generalize w.alloc (.cells #[.map (some b)] 49) = w1 at HG HB hB1
  have HB1 := Lib.hid (And.intro hB hB1)
  clear hseq hown hbl hB hB1
  unfold it at HG ⊢
  go_enter Try.func18, Try.ntmps18
  go_wp2_with fail
  refine HG.out.mono ?_
  rintro e w2 ⟨v, ss, rfl, hA, hr, hb⟩
  have HA := Lib.hid hA
  have HR := Lib.hid hr
  have HB2 := Lib.hid ((HB.out).trans' (But.of_new hb))
  clear hb hA
  rcases hr.2 with ⟨rfl, hz⟩ | ⟨gb, cap, cur, rfl, hbase, hgb, r1, r2, r3, r4⟩
  · have HN := Lib.hid (sort_none none 0)
    have HZ := Lib.hid hz
    clear hr hz
    go_wp2_with (first | (go_at_call 21; refine (HN.out _).mono ?_; rintro e w3 ⟨rfl, rfl⟩))
    go_ret
    obtain rfl : ss = [] := List.eq_nil_of_length_eq_zero HZ.out
    exact ⟨_, [], rfl, HA.out, ⟨by simp [up_length], .inl ⟨rfl, rfl⟩⟩, HB2.out⟩
  · have hH := holds_own (zs := ss) hgb (by simpa using r4)
    have hgl : gb < w2.heap.size := (Array.getElem?_eq_some_iff.1 hgb).1
    have HS := Lib.hid (sort_any ss w2 gb 0 cap hH hgl (by have := HA.out.len; omega))
    have HF := Lib.hid (fun (w' : World) (h : At enc w2 gb 0 (up ss).toArray w') => own_sorted (base := B) (by have := HB1.out.2; omega) hgb r1 r2 r3 h)
    have HGE := Lib.hid (show B ≤ gb from by have := HB1.out.2; omega)
    clear hr hgb hbase r1 r2 r3 r4 hH hgl
    go_wp2_with (first | (go_at_call 21; refine HS.out.mono ?_; rintro e w3 ⟨rfl, hA3⟩; have HA3 := Lib.hid (HF.out _ hA3); clear hA3))
    go_ret
    have h5 := HA3.out
    refine ⟨_, ss, rfl, HA.out, ?_, HB2.out.trans h5.2 (fun i hi e => by have := HGE.out; have := HB1.out.1; omega)⟩
    exact h5.1
end Go.Proofs.Ytciplhpnbpmfeaa.Srt
