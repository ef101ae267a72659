/- The body of records as the document says: the walk of the reference's Body. -/
import Derived.Test.YtkiagflpjloliaaRecPutAll
import Derived.Test.YtkiagflpjloliaaRecRefMay
namespace Go.Proofs.Ytkiagflpjloliaa.Rec
open Go.Proofs.Ytkiagflpjloliaa.Mem Go.Proofs.Ytkiagflpjloliaa.Pack Go.Proofs.Ytkiagflpjloliaa.Err
open Go.ChangeShapes Go.WideShapes Go.ChangeAt Go.RowKit
set_option linter.unusedVariables false
set_option linter.unusedSimpArgs false

def BodySays (w : World) (l : List Rcd) (e : Ending) (w' : World) : Prop :=
  Below w.heap.size w w' ∧ ((okBody l ∧ ∃ v, e = .returned (.tuple #[v, .bool true]) ∧ w'.ownsRow w.heap.size 5 1 v (body l).length (cellsOf (body l))) ∨
    (¬ okBody l ∧ ∃ v, e = .returned (.tuple #[v, .bool false])))
theorem body_le {l : List Rcd} (h : ∀ r ∈ l, May r) : 6 * l.length ≤ (body l).length ∧ (body l).length ≤ 1090 * l.length := by
  induction l with
  | nil => simp [body]
  | cons r l ih =>
    have h1 := bytesOf_len (h r List.mem_cons_self)
    have h2 := ih (fun x hx => h x (List.mem_cons_of_mem _ hx))
    have e : body (r :: l) = bytesOf r ++ body l := rfl
    rw [e, List.length_append, List.length_cons]
    omega
set_option maxRecDepth 100000 in
set_option maxHeartbeats 4000000 in
theorem refBody_any (a : Option Addr) (cap : Nat) (l : List Rcd) (w : World) (h : Recs w a l) (hl : l.length ≤ 900) :
    Calls Try.prog 13 #[.slice a l.length cap] w fun e w' => BodySays w l e w' := by
  have HR0 := Lib.hid h
  clear h
  go_enter Try.func13, Try.ntmps13
  go_wp2
  go_loopw [4, 5, 6] (fun v i p wr => ∃ (k : Nat) (va : Option Addr) (n vc : Nat), k ≤ l.length ∧ i = .int .i64 (k : Int) ∧ v = .slice va n vc ∧ n = (body (l.take k)).length ∧ wr.ownsRow w.heap.size 5 1 (.slice va n vc) n (cellsOf (body (l.take k))) ∧ (∀ r ∈ l.take k, May r) ∧ Below w.heap.size w wr) (fun _ i _ _ => l.length - (intOf i).toNat)
  case atStart => exact ⟨0, none, 0, 0, Nat.zero_le _, rfl, rfl, rfl, World.ownsRow_nil _ _ _ _, fun r hr => absurd hr List.not_mem_nil, Below.refl _ _⟩
  case round =>
    obtain ⟨k, va, n, vc, hk, rfl, rfl, hn, ho, hmt, hb⟩ := hrel
    have hnle : n ≤ 1090 * l.length := by
      rw [hn]
      have h1 := (body_le hmt).2
      have h2 : (l.take k).length ≤ l.length := by simp; omega
      omega
    by_cases hlt : k < l.length
    · obtain ⟨hi, b, off, rfl, hblt, hc⟩ : (∀ r ∈ l, Is r) ∧ ∃ b off, a = some ⟨b, off, none⟩ ∧ b < w.heap.size ∧ ∀ i (h : i < l.length) j u, (cells l[i])[j]? = some u → w.cell? ⟨b, off + i * 14 + j, none⟩ = some u := ⟨HR0.out.1, HR0.out.2 (by omega)⟩
      have HCK := Lib.hid (fun j u (hu : (cells l[k])[j]? = some u) => (hb.cell (p := ⟨b, off + k * 14 + j, none⟩) hblt).trans (hc k hlt j u hu))
      have HCW := Lib.hid (fun j u (hu : (cells l[k])[j]? = some u) => hc k hlt j u hu)
      have his := hi l[k] (List.getElem_mem hlt)
      have HREST := Lib.hid (And.intro hn (And.intro ho (And.intro hmt hb)))
      obtain ⟨r, hr⟩ : ∃ r, r = l[k] := ⟨_, rfl⟩
      rw [← hr] at HCK HCW his
      have HR := Lib.hid hr
      have hm := fun w => refMay_any r w
      have hp := fun hmr v len xs base w hown hb hl => rbytes_any r hmr his v len xs base w hown hb hl
      obtain ⟨e0, e1, e2, e3, e4, e5, e6, e7, e8, e9, e10, e11, e12, e13⟩ := cells_at HCK.out
      simp only [rv, cells] at hm hp
      clear hn ho hmt hr hi hc
      have HP := Lib.hid hp
      have HM := Lib.hid hm
      clear hm hp
      go_wp2_with fail
      clear e0 e1 e2 e3 e4 e5 e6 e7 e8 e9 e10 e11 e12 e13
      refine (HM.out _).mono ?_
      rintro e w1 ⟨rfl, hb1⟩
      obtain ⟨hn, ho, hmt, -⟩ := HREST.out
      have ho1 := ownsRow_but ho (But.of_new hb1 (S := fun _ => False)) (fun _ _ e => e)
      have hbw1 : Below w.heap.size w w1 := hb.trans (hb1.mono hb.size)
      have HC1 := Lib.hid (fun j u (hu : (cells r)[j]? = some u) => (hbw1.cell (p := ⟨b, off + k * 14 + j, none⟩) hblt).trans (HCW.out j u hu))
      have HO := Lib.hid (And.intro ho1 hbw1)
      clear hb1 ho1 hbw1 ho
      by_cases hmr : May r
      · rw [decide_eq_true hmr]
        have hmt1 := may_take hlt hmt (HR.out ▸ hmr)
        have HMT := Lib.hid hmt1
        have HNN := Lib.hid hn
        clear hmt1 hmt hn
        obtain ⟨e0, e1, e2, e3, e4, e5, e6, e7, e8, e9, e10, e11, e12, e13⟩ := cells_at HC1.out
        go_wp2_with fail
        clear e0 e1 e2 e3 e4 e5 e6 e7 e8 e9 e10 e11 e12 e13
        refine (HP.out hmr _ _ _ w.heap.size w1 HO.out.1 HO.out.2.size (by omega)).mono ?_
        rintro e w2 ⟨v2, rfl, ho2, hb2⟩
        have hby : Bytes (body (l.take k) ++ bytesOf r) := bytes_append (body_bytes _) (bytesOf_bytes r)
        obtain ⟨a2, c2, rfl, hr2, hl2, -⟩ := own_shape ho2 hby
        obtain ⟨m, hm⟩ : ∃ m, m = n + (bytesOf r).length := ⟨_, rfl⟩
        rw [← hm] at ho2 hl2 ⊢
        have hbody : body (l.take (k + 1)) = body (l.take k) ++ bytesOf r := by rw [body_snoc l k hlt, ← HR.out]
        have HO2 := Lib.hid (And.intro ho2 (And.intro (HO.out.2.trans hb2) (And.intro hbody hl2)))
        clear ho2 hb2 hby hr2 hl2 hm hbody HO
        go_wp2_with fail
        go_roundw
        case rel => exact ⟨k + 1, a2, m, c2, by omega, by go_num, rfl, by rw [HO2.out.2.2.1]; exact HO2.out.2.2.2, by rw [HO2.out.2.2.1]; exact HO2.out.1, HMT.out, HO2.out.2.1⟩
        case measure => simp [intOf]; omega
      · rw [decide_eq_false hmr]
        have HBW := Lib.hid HO.out.2
        have HNO := Lib.hid (show ¬ okBody l from fun hok => hmr (hok.2.1 r (by rw [HR.out]; exact List.getElem_mem hlt)))
        clear hmt hn HO
        go_wp2_with fail
        go_ret2
        exact ⟨HBW.out, .inr ⟨HNO.out, _, rfl⟩⟩
    · have hkl : k = l.length := by omega
      have hall : l.take k = l := List.take_of_length_le (by omega)
      rw [hall] at hn ho hmt
      have HF := Lib.hid (And.intro hn (And.intro ho (And.intro hmt hb)))
      have h6 := (body_le hmt).1
      subst hkl
      rw [← hn] at h6
      clear hn ho hmt hall hb hlt hk
      by_cases h0 : n = 0
      · have d0 : decide ((0 : Int) < (n : Int)) = false := decide_eq_false (by omega)
        go_wp2_with fail
        go_ret2
        obtain ⟨hn, ho, hmt, hb⟩ := HF.out
        exact ⟨hb, .inr ⟨fun hok => by have := hok.1; omega, _, rfl⟩⟩
      · have hl0 : 0 < l.length := by
          rcases Nat.eq_zero_or_pos l.length with h1 | h1
          · exfalso
            apply h0
            rw [HF.out.1, List.eq_nil_of_length_eq_zero h1]
            rfl
          · exact h1
        have d0 : decide ((0 : Int) < (n : Int)) = true := decide_eq_true (by omega)
        by_cases hs : n ≤ 20000
        · have d1 : decide ((n : Int) ≤ 20000) = true := decide_eq_true (by omega)
          go_wp2_with fail
          go_ret2
          obtain ⟨hn, ho, hmt, hb⟩ := HF.out
          exact ⟨hb, .inl ⟨⟨hl0, hmt, by omega⟩, _, rfl, by rw [← hn]; exact ho⟩⟩
        · have d1 : decide ((n : Int) ≤ 20000) = false := decide_eq_false (by omega)
          go_wp2_with fail
          go_ret2
          obtain ⟨hn, ho, hmt, hb⟩ := HF.out
          exact ⟨hb, .inr ⟨fun hok => by have := hok.2.2; omega, _, rfl⟩⟩
end Go.Proofs.Ytkiagflpjloliaa.Rec
