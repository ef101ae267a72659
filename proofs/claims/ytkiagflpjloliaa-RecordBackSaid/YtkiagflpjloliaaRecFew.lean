/- Whether records are few and small, and whether records are the same: the walks of the reference's Few and Same. -/
import Derived.Test.YtkiagflpjloliaaRecPutAll
namespace Go.Proofs.Ytkiagflpjloliaa.Rec
open Go.Proofs.Ytkiagflpjloliaa.Mem Go.Proofs.Ytkiagflpjloliaa.Pack Go.Proofs.Ytkiagflpjloliaa.Err
open Go.ChangeShapes Go.WideShapes Go.ChangeAt Go.RowKit
set_option linter.unusedVariables false
set_option linter.unusedSimpArgs false

def Small (l : List Rcd) : Prop := ∀ r ∈ l, r.key.size ≤ 200 ∧ r.val.size ≤ 2000
def FewIs (l : List Rcd) (b : Bool) : Prop := (b = true ∧ Small l ∧ l.length ≤ 40) ∨ (b = false ∧ ¬ (Small l ∧ l.length ≤ 40))
theorem small_take {l : List Rcd} {k : Nat} (h : k < l.length) (hm : Small (l.take k)) (hk : l[k].key.size ≤ 200 ∧ l[k].val.size ≤ 2000) : Small (l.take (k + 1)) := by
  intro r hr
  rw [List.take_succ_eq_append_getElem h] at hr
  rcases List.mem_append.1 hr with h1 | h1
  · exact hm r h1
  · rw [List.mem_singleton.1 h1]; exact hk
set_option maxRecDepth 100000 in
set_option maxHeartbeats 2000000 in
theorem few_any (a : Option Addr) (cap : Nat) (l : List Rcd) (w : World) (h : Recs w a l) (hl : l.length ≤ 9223372036854775807) :
    Calls Try.prog 7 #[.slice a l.length cap, .int .i64 40] w fun e w' => (∃ z, e = .returned (.bool z) ∧ FewIs l z) ∧ w = w' := by
  have HR0 := Lib.hid h
  clear h
  go_enter Try.func7, Try.ntmps7
  go_wp2
  go_loopw [5] (fun i wr => ∃ k : Nat, k ≤ l.length ∧ i = .int .i64 (k : Int) ∧ Small (l.take k) ∧ wr = w) (fun i _ => l.length - (intOf i).toNat)
  case atStart => exact ⟨0, Nat.zero_le _, rfl, fun r hr => absurd hr List.not_mem_nil, rfl⟩
  case round =>
    obtain ⟨k, hk, rfl, hs, rfl⟩ := hrel
    by_cases hlt : k < l.length
    · obtain ⟨hi, b, off, rfl, hblt, hc⟩ : (∀ r ∈ l, Is r) ∧ ∃ b off, a = some ⟨b, off, none⟩ ∧ b < wr.heap.size ∧ ∀ i (h : i < l.length) j u, (cells l[i])[j]? = some u → wr.cell? ⟨b, off + i * 14 + j, none⟩ = some u := ⟨HR0.out.1, HR0.out.2 (by omega)⟩
      have his := hi l[k] (List.getElem_mem hlt)
      have hin := List.getElem_mem hlt
      have hck := fun j u (hu : (cells l[k])[j]? = some u) => hc k hlt j u hu
      obtain ⟨r, hr⟩ : ∃ r, r = l[k] := ⟨_, rfl⟩
      have hst := small_take hlt hs
      rw [← hr] at hck his hin hst
      obtain ⟨-, -, -, -, -, -, -, -, -, -, e10, e11, -, -⟩ := cells_at hck
      have HS := Lib.hid hst
      have HIN := Lib.hid hin
      have hks := his.key
      have hvs := his.val
      clear hst hs hin hck hr his hi hc HR0
      by_cases h1 : 200 < r.key.size
      · have d1 : decide (200 < (r.key.size : Int)) = true := decide_eq_true (by omega)
        go_wp2
        go_ret
        exact ⟨⟨false, rfl, .inr ⟨rfl, fun h => by have := (h.1 r HIN.out).1; omega⟩⟩, rfl⟩
      · have d1 : decide (200 < (r.key.size : Int)) = false := decide_eq_false (by omega)
        by_cases h2 : 2000 < r.val.size
        · have d2 : decide (2000 < (r.val.size : Int)) = true := decide_eq_true (by omega)
          go_wp2
          go_ret
          exact ⟨⟨false, rfl, .inr ⟨rfl, fun h => by have := (h.1 r HIN.out).2; omega⟩⟩, rfl⟩
        · have d2 : decide (2000 < (r.val.size : Int)) = false := decide_eq_false (by omega)
          go_wp2
          go_roundw
          case rel => exact ⟨k + 1, by omega, by go_num, HS.out ⟨by omega, by omega⟩, by first | trivial | rfl⟩
          case measure => simp [intOf]; omega
    · have hkl : k = l.length := by omega
      have hall : l.take k = l := List.take_of_length_le (by omega)
      rw [hall] at hs
      have HS := Lib.hid hs
      subst hkl
      clear hs hall hlt hk HR0
      by_cases h40 : l.length ≤ 40
      · have d : decide ((l.length : Int) ≤ 40) = true := decide_eq_true (by omega)
        go_wp2
        go_ret
        exact ⟨⟨true, rfl, .inl ⟨rfl, HS.out, h40⟩⟩, rfl⟩
      · have d : decide ((l.length : Int) ≤ 40) = false := decide_eq_false (by omega)
        go_wp2
        go_ret
        exact ⟨⟨false, rfl, .inr ⟨rfl, fun h => h40 h.2⟩⟩, rfl⟩
set_option maxRecDepth 100000 in
set_option maxHeartbeats 4000000 in
theorem same_yes (a a' : Option Addr) (cap cap' : Nat) (l : List Rcd) (w : World) (h : Recs w a l) (h' : Recs w a' l) (hl : l.length ≤ 9223372036854775807) :
    Calls Try.prog 17 #[.slice a l.length cap, .slice a' l.length cap'] w fun e w' => e = .returned (.bool true) ∧ ∃ n, w' = w.drewN n := by
  have HR0 := Lib.hid h
  have HR1 := Lib.hid h'
  clear h h'
  go_enter Try.func17, Try.ntmps17
  go_wp2
  go_loopw [5] (fun i wr => ∃ k n : Nat, k ≤ l.length ∧ i = .int .i64 (k : Int) ∧ wr = w.drewN n) (fun i _ => l.length - (intOf i).toNat)
  case atStart => exact ⟨0, 0, Nat.zero_le _, rfl, rfl⟩
  case round =>
    obtain ⟨k, n, hk, rfl, rfl⟩ := hrel
    by_cases hlt : k < l.length
    · obtain ⟨b, off, rfl, hblt, hc⟩ : ∃ b off, a = some ⟨b, off, none⟩ ∧ b < w.heap.size ∧ ∀ i (h : i < l.length) j u, (cells l[i])[j]? = some u → w.cell? ⟨b, off + i * 14 + j, none⟩ = some u := HR0.out.2 (by omega)
      obtain ⟨b', off', rfl, hblt', hc'⟩ : ∃ b off, a' = some ⟨b, off, none⟩ ∧ b < w.heap.size ∧ ∀ i (h : i < l.length) j u, (cells l[i])[j]? = some u → w.cell? ⟨b, off + i * 14 + j, none⟩ = some u := HR1.out.2 (by omega)
      have hck := fun j u (hu : (cells l[k])[j]? = some u) => hc k hlt j u hu
      have hck' := fun j u (hu : (cells l[k])[j]? = some u) => hc' k hlt j u hu
      obtain ⟨r, hr⟩ : ∃ r, r = l[k] := ⟨_, rfl⟩
      rw [← hr] at hck hck'
      have hne := fun w => rec_neq r r w
      have heq := fun w => rec_equal r r w
      rw [decide_eq_true (rfl : r = r)] at hne heq
      simp only [Bool.not_true, rv, cells] at hne heq
      obtain ⟨e0, e1, e2, e3, e4, e5, e6, e7, e8, e9, e10, e11, e12, e13⟩ := cells_at hck
      obtain ⟨f0, f1, f2, f3, f4, f5, f6, f7, f8, f9, f10, f11, f12, f13⟩ := cells_at hck'
      clear hck hck' hr hc hc' HR0 HR1
      go_wp2
      go_quiet (fail)
      go_wp2
      go_roundw
      case rel => exact ⟨k + 1, _, by omega, by go_num, rfl⟩
      case measure => simp [intOf]; omega
    · have hkl : k = l.length := by omega
      subst hkl
      go_wp2
      go_ret
      exact ⟨rfl, _, rfl⟩
end Go.Proofs.Ytkiagflpjloliaa.Rec
