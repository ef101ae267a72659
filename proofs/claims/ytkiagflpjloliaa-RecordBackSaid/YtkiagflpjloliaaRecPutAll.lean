/- The body of records: the walk of record.Put. -/
import Derived.Test.YtkiagflpjloliaaRecRows
import Derived.Test.YtkiagflpjloliaaErr
namespace Go.Proofs.Ytkiagflpjloliaa.Rec
open Go.Proofs.Ytkiagflpjloliaa.Mem Go.Proofs.Ytkiagflpjloliaa.Pack Go.Proofs.Ytkiagflpjloliaa.Err
open Go.ChangeShapes Go.WideShapes Go.ChangeAt Go.RowKit
set_option linter.unusedVariables false
set_option linter.unusedSimpArgs false

def okBody (l : List Rcd) : Prop := 0 < l.length ∧ (∀ r ∈ l, May r) ∧ (body l).length ≤ 20000
/- What Put answers. -/
def PutSays (w : World) (l : List Rcd) (e : Ending) (w' : World) : Prop :=
  Below w.heap.size w w' ∧ ((okBody l ∧ ∃ v, e = .returned (.tuple #[v, .nilIface]) ∧ w'.ownsRow w.heap.size 5 1 v (body l).length (cellsOf (body l))) ∨
    (¬ okBody l ∧ e = .returned (.tuple #[.slice none 0 0, .iface 40 (.int .i64 1)])))
theorem cells_at {w : World} {b o : Nat} {r : Rcd} (h : ∀ j u, (cells r)[j]? = some u → w.cell? ⟨b, o + j, none⟩ = some u) : w.cell? ⟨b, o, none⟩ = some (.int .i64 r.kind) ∧ w.cell? ⟨b, o + 1, none⟩ = some (.int .i64 r.bucket) ∧ w.cell? ⟨b, o + 2, none⟩ = some (.int .u32 (r.gen : Int)) ∧ w.cell? ⟨b, o + 3, none⟩ = some (.int .i64 r.keys) ∧ w.cell? ⟨b, o + 4, none⟩ = some (.int .i64 r.bytes) ∧ w.cell? ⟨b, o + 5, none⟩ = some (.int .i64 r.budget) ∧ w.cell? ⟨b, o + 6, none⟩ = some (.int .u64 (r.seq : Int)) ∧ w.cell? ⟨b, o + 7, none⟩ = some (.int .u32 (r.serial : Int)) ∧ w.cell? ⟨b, o + 8, none⟩ = some (.int .i64 r.rights) ∧ w.cell? ⟨b, o + 9, none⟩ = some (.int .u64 (r.secret : Int)) ∧ w.cell? ⟨b, o + 10, none⟩ = some (.string r.key) ∧ w.cell? ⟨b, o + 11, none⟩ = some (.string r.val) ∧ w.cell? ⟨b, o + 12, none⟩ = some (.int .u64 (r.version : Int)) ∧ w.cell? ⟨b, o + 13, none⟩ = some (.int .u64 (r.expiry : Int)) :=
  ⟨h 0 _ rfl, h 1 _ rfl, h 2 _ rfl, h 3 _ rfl, h 4 _ rfl, h 5 _ rfl, h 6 _ rfl, h 7 _ rfl, h 8 _ rfl, h 9 _ rfl, h 10 _ rfl, h 11 _ rfl, h 12 _ rfl, h 13 _ rfl⟩
theorem may_take {l : List Rcd} {k : Nat} (h : k < l.length) (hm : ∀ r ∈ l.take k, May r) (hk : May l[k]) : ∀ r ∈ l.take (k + 1), May r := by
  intro r hr
  rw [List.take_succ_eq_append_getElem h] at hr
  rcases List.mem_append.1 hr with h1 | h1
  · exact hm r h1
  · rw [List.mem_singleton.1 h1]; exact hk
set_option maxHeartbeats 1000000 in
theorem recPut_nil (a : Option Addr) (cap : Nat) (w : World) : Calls Try.prog 12 #[.slice a 0 cap] w fun e w' => PutSays w [] e w' := by
  go_enter Try.func12, Try.ntmps12
  go_wp2
  go_ret2
  exact ⟨Below.refl _ _, .inr ⟨fun h => absurd h.1 (by simp), rfl⟩⟩
set_option maxRecDepth 100000 in
set_option maxHeartbeats 4000000 in
theorem recPut_some (a : Option Addr) (cap : Nat) (l : List Rcd) (w : World) (h : Recs w a l) (h0 : 0 < l.length) (hl : l.length ≤ 1000000000) :
    Calls Try.prog 12 #[.slice a l.length cap] w fun e w' => PutSays w l e w' := by
  obtain ⟨hi, b, off, rfl, hblt, hc⟩ : (∀ r ∈ l, Is r) ∧ ∃ b off, a = some ⟨b, off, none⟩ ∧ b < w.heap.size ∧ ∀ i (h : i < l.length) j u, (cells l[i])[j]? = some u → w.cell? ⟨b, off + i * 14 + j, none⟩ = some u := ⟨h.1, h.2 h0⟩
  have hn0 : ((l.length : Int) == 0) = false := beq_eq_false_iff_ne.2 (by omega)
  have HI := Lib.hid hi
  have HC := Lib.hid hc
  clear h hi hc
  go_enter Try.func12, Try.ntmps12
  go_wp2
  go_loopw [4, 6, 13] (fun v p i wr => ∃ (k : Nat) (va : Option Addr) (n vc : Nat), k ≤ l.length ∧ i = .int .i64 (k : Int) ∧ v = .slice va n vc ∧ n = (body (l.take k)).length ∧ wr.ownsRow w.heap.size 5 1 (.slice va n vc) n (cellsOf (body (l.take k))) ∧ (∀ r ∈ l.take k, May r) ∧ n ≤ 20000 ∧ Below w.heap.size w wr) (fun _ _ i _ => l.length - (intOf i).toNat)
  case atStart => exact ⟨0, none, 0, 0, Nat.zero_le _, rfl, rfl, rfl, World.ownsRow_nil _ _ _ _, fun r hr => absurd hr List.not_mem_nil, Nat.zero_le _, Below.refl _ _⟩
  case round =>
    obtain ⟨k, va, n, vc, hk, rfl, rfl, hn, ho, hmt, hlen, hb⟩ := hrel
    by_cases hlt : k < l.length
    · have HCK := Lib.hid (fun j u (hu : (cells l[k])[j]? = some u) => (hb.cell (p := ⟨b, off + k * 14 + j, none⟩) hblt).trans (HC.out k hlt j u hu))
      have his := HI.out l[k] (List.getElem_mem hlt)
      have HREST := Lib.hid (And.intro hn (And.intro ho (And.intro hmt hb)))
      obtain ⟨r, hr⟩ : ∃ r, r = l[k] := ⟨_, rfl⟩
      rw [← hr] at HCK his
      have HR := Lib.hid hr
      have hm := fun w => may_any r w
      have hp := fun hmr v len xs base w hown hb hl => rput_any r hmr his v len xs base w hown hb hl
      obtain ⟨e0, e1, e2, e3, e4, e5, e6, e7, e8, e9, e10, e11, e12, e13⟩ := cells_at HCK.out
      simp only [rv, cells] at hm hp
      clear hn ho hmt hr
      have HP := Lib.hid hp
      have HM := Lib.hid hm
      clear hm hp
      go_wp2_with fail
      clear e0 e1 e2 e3 e4 e5 e6 e7 e8 e9 e10 e11 e12 e13
      refine (HM.out _).mono ?_
      rintro e w1 ⟨rfl, hb1⟩
      have hbox1 : Box w1 wr.heap.size (cells r) := (hb1.block wr.heap.size (by simp)).trans (heap_new wr _)
      simp only [cells] at hbox1
      obtain ⟨hn, ho, hmt, -⟩ := HREST.out
      have ho1 := ownsRow_but (ownsRow_alloc ho (.cells (cells r) 27)) (But.of_new hb1 (S := fun _ => False)) (fun _ _ e => e)
      have hbw1 : Below w.heap.size w w1 := (hb.alloc hb.size _).trans (hb1.mono (by have := hb.size; simp; omega))
      have HO := Lib.hid (And.intro ho1 hbw1)
      have HBX := Lib.hid (show _ = _ from hbox1)
      clear hb1 hbox1 ho1 hbw1 ho
      by_cases hmr : May r
      · rw [decide_eq_true hmr]
        have hmt1 := may_take hlt hmt (HR.out ▸ hmr)
        have HMT := Lib.hid hmt1
        have HNN := Lib.hid hn
        clear hmt1 hmt hn
        go_wp2_with (refine wpList_load_row rfl 27 _ rfl wr.heap.size rfl 27 _ (0, 0) _ HBX.out Try.underlying27 rfl rec_size ?_)
        refine (HP.out hmr _ _ _ w.heap.size w1 HO.out.1 HO.out.2.size (by omega)).mono ?_
        rintro e w2 ⟨v2, rfl, ho2, hb2⟩
        have hby : Bytes (body (l.take k) ++ bytesOf r) := bytes_append (body_bytes _) (bytesOf_bytes r)
        obtain ⟨a2, c2, rfl, hr2, hl2, -⟩ := own_shape ho2 hby
        have hbl := bytesOf_len hmr
        obtain ⟨m, hm⟩ : ∃ m, m = n + (bytesOf r).length := ⟨_, rfl⟩
        rw [← hm] at ho2 hl2 ⊢
        have hbody : body (l.take (k + 1)) = body (l.take k) ++ bytesOf r := by rw [body_snoc l k hlt, ← HR.out]
        have HO2 := Lib.hid (And.intro ho2 (And.intro (HO.out.2.trans hb2) (And.intro hbody hl2)))
        have HM2 := Lib.hid hm
        have hm2 : m ≤ 21090 := by omega
        clear ho2 hb2 hby hr2 hl2 hbl hm hbody HO HBX
        by_cases hbig : 20000 < m
        · go_wp2_with fail
          go_ret2
          refine ⟨HO2.out.2.1, .inr ⟨fun hok => ?_, rfl⟩⟩
          have h3 := body_take_le l (k + 1)
          have h4 := hok.2.2
          have h5 : (body (l.take (k + 1))).length = m := by rw [HO2.out.2.2.1]; exact HO2.out.2.2.2.symm
          omega
        · go_wp2_with fail
          go_roundw
          case rel => exact ⟨k + 1, a2, m, c2, by omega, by go_num, rfl, by rw [HO2.out.2.2.1]; exact HO2.out.2.2.2, by rw [HO2.out.2.2.1]; exact HO2.out.1, HMT.out, by omega, HO2.out.2.1⟩
          case measure => simp [intOf]; omega
      · rw [decide_eq_false hmr]
        have HBW := Lib.hid HO.out.2
        have HNO := Lib.hid (show ¬ okBody l from fun hok => hmr (hok.2.1 r (by rw [HR.out]; exact List.getElem_mem hlt)))
        clear hmt hn HO
        go_wp2_with fail
        go_ret2
        exact ⟨HBW.out, .inr ⟨HNO.out, rfl⟩⟩
    · have hkl : k = l.length := by omega
      have hall : l.take k = l := List.take_of_length_le (by omega)
      rw [hall] at hn ho hmt
      have HF := Lib.hid (And.intro hn (And.intro ho (And.intro hmt hb)))
      subst hkl
      clear hn ho hmt hall hb hlt hk HC HI
      go_wp2_with fail
      go_ret2
      obtain ⟨hn, ho, hmt, hb⟩ := HF.out
      exact ⟨hb, .inl ⟨⟨h0, hmt, by omega⟩, _, rfl, by rw [← hn]; exact ho⟩⟩
theorem recPut_any (a : Option Addr) (cap : Nat) (l : List Rcd) (w : World) (h : Recs w a l) (hl : l.length ≤ 1000000000) :
    Calls Try.prog 12 #[.slice a l.length cap] w fun e w' => PutSays w l e w' := by
  rcases Nat.eq_zero_or_pos l.length with h0 | h0
  · have e := List.eq_nil_of_length_eq_zero h0
    subst e
    exact recPut_nil a cap w
  · exact recPut_some a cap l w h h0 hl
end Go.Proofs.Ytkiagflpjloliaa.Rec
