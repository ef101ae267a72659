/- In one text: Rows of records: what lies in them, and the calls that make and ask for bytes, of any kind. The body of records: the walk of record.Put. Whether records are few and small, and whether records are the same: the walks of the reference's Few and Same. Contract of the document's Same, of any two rows of records. What a record costs: the walks of record.Cost and of the reference's Cost. -/
import Derived.Test.YtgjofinbdigmcaaRecPutX
import Derived.Test.YtgjofinbdigmcaaRecMay
import Derived.Test.YtgjofinbdigmcaaBlk
import Derived.Test.YtgjofinbdigmcaaErr
namespace Go.Proofs.Ytgjofinbdigmcaa.Rec
open Go.Proofs.Ytgjofinbdigmcaa.Mem Go.Proofs.Ytgjofinbdigmcaa.Pack
open Go.ChangeShapes Go.WideShapes Go.ChangeAt Go.RowKit
set_option linter.unusedVariables false
set_option linter.unusedSimpArgs false

theorem rput_any (r : Rcd) (hm : May r) (hi : Is r) (v : Value) (len : Nat) (xs : List Int) (base : Nat) (w : World)
    (hown : w.ownsRow base 5 1 v len (cellsOf xs)) (hb : base ≤ w.heap.size) (hl : len ≤ 1000000) : Calls Try.prog 40 #[v, rv r] w fun e w' => Puts base w xs len r e w' := by
  have hk : r.kind = 1 ∨ r.kind = 2 ∨ r.kind = 3 ∨ r.kind = 4 ∨ r.kind = 5 ∨ r.kind = 6 ∨ r.kind = 7 := by have h1 := hm.1; have h2 := hm.2.1; omega
  rcases hk with h | h | h | h | h | h | h
  · exact rput_1 r h hm hi v len xs base w hown hb hl
  · exact rput_2 r h hm hi v len xs base w hown hb hl
  · exact rput_3 r h hm hi v len xs base w hown hb hl
  · exact rput_4 r h hm hi v len xs base w hown hb hl
  · exact rput_5 r h hm hi v len xs base w hown hb hl
  · exact rput_6 r h hm hi v len xs base w hown hb hl
  · exact rput_7 r h hm hi v len xs base w hown hb hl
theorem text_length (s : ByteArray) : (text s).length = 2 + s.size := by simp [text, put_length, strBytes_length]
theorem more_le {r : Rcd} (hm : May r) : (more r).length ≤ 1084 := by
  have hf := hm.2.2.2.2.2.2
  unfold fits keyMay at hf
  unfold more
  split
  · simp [put_length]
  · rename_i h1
    rw [if_neg h1] at hf
    split
    · rename_i h3
      rw [if_pos h3] at hf
      simp [put_length, text_length]; omega
    · rename_i h3
      rw [if_neg h3] at hf
      split
      · rename_i h4
        rw [if_pos h4] at hf
        simp [put_length, text_length]; omega
      · split
        · simp [put_length]
        · split
          · simp [put_length]
          · simp
theorem bytesOf_len {r : Rcd} (hm : May r) : 6 ≤ (bytesOf r).length ∧ (bytesOf r).length ≤ 1090 := by
  have h := more_le hm
  simp only [bytesOf, List.length_append, put_length]
  omega
theorem text_bytes (s : ByteArray) : Bytes (text s) := bytes_append (put_bytes _ _) (strBytes_bytes s)
theorem bytesOf_bytes (r : Rcd) : Bytes (bytesOf r) := by
  refine bytes_append (put_bytes _ _) (bytes_append (put_bytes _ _) (bytes_append (put_bytes _ _) ?_))
  unfold more
  split
  · exact bytes_append (put_bytes _ _) (bytes_append (put_bytes _ _) (bytes_append (put_bytes _ _) (bytes_append (put_bytes _ _) (put_bytes _ _))))
  · split
    · exact bytes_append (put_bytes _ _) (bytes_append (put_bytes _ _) (bytes_append (text_bytes _) (text_bytes _)))
    · split
      · exact bytes_append (put_bytes _ _) (text_bytes _)
      · split
        · exact bytes_append (put_bytes _ _) (bytes_append (put_bytes _ _) (put_bytes _ _))
        · split
          · exact put_bytes _ _
          · exact bytes_nil
theorem body_bytes (l : List Rcd) : Bytes (body l) := by
  intro z hz
  obtain ⟨r, _, hr⟩ := List.mem_flatMap.1 hz
  exact bytesOf_bytes r z hr
theorem body_snoc (l : List Rcd) (k : Nat) (h : k < l.length) : body (l.take (k + 1)) = body (l.take k) ++ bytesOf l[k] := by
  unfold body
  rw [List.take_succ_eq_append_getElem h, List.flatMap_append]
  simp
theorem body_take_le (l : List Rcd) (k : Nat) : (body (l.take k)).length ≤ (body l).length := by
  conv => rhs; rw [← List.take_append_drop k l]
  unfold body
  rw [List.flatMap_append, List.length_append]
  omega
/- A slice's records. -/
def Recs (w : World) (a : Option Addr) (l : List Rcd) : Prop :=
  (∀ r ∈ l, Is r) ∧ (0 < l.length → ∃ b off, a = some ⟨b, off, none⟩ ∧ b < w.heap.size ∧ ∀ i (h : i < l.length) j u, (cells l[i])[j]? = some u → w.cell? ⟨b, off + i * 14 + j, none⟩ = some u)
theorem Recs.but {S : Nat → Prop} {w w' : World} {a : Option Addr} {l : List Rcd} (h : Recs w a l) (hb : But S w w') (hs : ∀ p, a = some p → ¬ S p.block) : Recs w' a l := by
  refine ⟨h.1, fun hn => ?_⟩
  obtain ⟨b, off, rfl, hlt, hc⟩ := h.2 hn
  exact ⟨b, off, rfl, Nat.lt_of_lt_of_le hlt hb.size, fun i hi j u hu => (hb.cell (p := ⟨b, off + i * 14 + j, none⟩) hlt (hs ⟨b, off, none⟩ rfl)).trans (hc i hi j u hu)⟩
theorem Recs.below {w w' : World} {a : Option Addr} {l : List Rcd} (h : Recs w a l) (hb : Below w.heap.size w w') : Recs w' a l := h.but (S := fun _ => False) (But.of_new hb) (fun _ _ e => e)
theorem Recs.nil (w : World) (a : Option Addr) : Recs w a [] := ⟨fun _ h => absurd h List.not_mem_nil, fun h => absurd h (by simp)⟩
end Go.Proofs.Ytgjofinbdigmcaa.Rec
namespace Go.Proofs.Ytgjofinbdigmcaa.Rec
open Go.Proofs.Ytgjofinbdigmcaa.Mem Go.Proofs.Ytgjofinbdigmcaa.Pack Go.Proofs.Ytgjofinbdigmcaa.Err
open Go.ChangeShapes Go.WideShapes Go.ChangeAt Go.RowKit
set_option linter.unusedVariables false
set_option linter.unusedSimpArgs false

def okBody (l : List Rcd) : Prop := 0 < l.length ∧ (∀ r ∈ l, May r) ∧ (body l).length ≤ 20000
/- What Put answers. -/
def PutSays (w : World) (l : List Rcd) (e : Ending) (w' : World) : Prop :=
  Below w.heap.size w w' ∧ ((okBody l ∧ ∃ v, e = .returned (.tuple #[v, .nilIface]) ∧ w'.ownsRow w.heap.size 5 1 v (body l).length (cellsOf (body l))) ∨
    (¬ okBody l ∧ e = .returned (.tuple #[.slice none 0 0, .iface 85 (.int .i64 1)])))
theorem cells_at {w : World} {b o : Nat} {r : Rcd} (h : ∀ j u, (cells r)[j]? = some u → w.cell? ⟨b, o + j, none⟩ = some u) : w.cell? ⟨b, o, none⟩ = some (.int .i64 r.kind) ∧ w.cell? ⟨b, o + 1, none⟩ = some (.int .i64 r.bucket) ∧ w.cell? ⟨b, o + 2, none⟩ = some (.int .u32 (r.gen : Int)) ∧ w.cell? ⟨b, o + 3, none⟩ = some (.int .i64 r.keys) ∧ w.cell? ⟨b, o + 4, none⟩ = some (.int .i64 r.bytes) ∧ w.cell? ⟨b, o + 5, none⟩ = some (.int .i64 r.budget) ∧ w.cell? ⟨b, o + 6, none⟩ = some (.int .u64 (r.seq : Int)) ∧ w.cell? ⟨b, o + 7, none⟩ = some (.int .u32 (r.serial : Int)) ∧ w.cell? ⟨b, o + 8, none⟩ = some (.int .i64 r.rights) ∧ w.cell? ⟨b, o + 9, none⟩ = some (.int .u64 (r.secret : Int)) ∧ w.cell? ⟨b, o + 10, none⟩ = some (.string r.key) ∧ w.cell? ⟨b, o + 11, none⟩ = some (.string r.val) ∧ w.cell? ⟨b, o + 12, none⟩ = some (.int .u64 (r.version : Int)) ∧ w.cell? ⟨b, o + 13, none⟩ = some (.int .u64 (r.expiry : Int)) :=
  ⟨h 0 _ rfl, h 1 _ rfl, h 2 _ rfl, h 3 _ rfl, h 4 _ rfl, h 5 _ rfl, h 6 _ rfl, h 7 _ rfl, h 8 _ rfl, h 9 _ rfl, h 10 _ rfl, h 11 _ rfl, h 12 _ rfl, h 13 _ rfl⟩
theorem may_take {l : List Rcd} {k : Nat} (h : k < l.length) (hm : ∀ r ∈ l.take k, May r) (hk : May l[k]) : ∀ r ∈ l.take (k + 1), May r := by
  intro r hr
  rw [List.take_succ_eq_append_getElem h] at hr
  rcases List.mem_append.1 hr with h1 | h1
  · exact hm r h1
  · rw [List.mem_singleton.1 h1]; exact hk
end Go.Proofs.Ytgjofinbdigmcaa.Rec
namespace Go.Proofs.Ytgjofinbdigmcaa.Rec
open Go.Proofs.Ytgjofinbdigmcaa.Mem Go.Proofs.Ytgjofinbdigmcaa.Pack Go.Proofs.Ytgjofinbdigmcaa.Err
open Go.ChangeShapes Go.WideShapes Go.ChangeAt Go.RowKit
set_option linter.unusedVariables false
set_option linter.unusedSimpArgs false

def Small (l : List Rcd) : Prop := ∀ r ∈ l, r.key.size ≤ 200 ∧ r.val.size ≤ 2000
def FewAt (m : Nat) (l : List Rcd) (b : Bool) : Prop := (b = true ∧ Small l ∧ l.length ≤ m) ∨ (b = false ∧ ¬ (Small l ∧ l.length ≤ m))
def FewIs (l : List Rcd) (b : Bool) : Prop := FewAt 40 l b
theorem small_take {l : List Rcd} {k : Nat} (h : k < l.length) (hm : Small (l.take k)) (hk : l[k].key.size ≤ 200 ∧ l[k].val.size ≤ 2000) : Small (l.take (k + 1)) := by
  intro r hr
  rw [List.take_succ_eq_append_getElem h] at hr
  rcases List.mem_append.1 hr with h1 | h1
  · exact hm r h1
  · rw [List.mem_singleton.1 h1]; exact hk
set_option maxRecDepth 100000 in
set_option maxHeartbeats 4000000 in
theorem same_yes (a a' : Option Addr) (cap cap' : Nat) (l : List Rcd) (w : World) (h : Recs w a l) (h' : Recs w a' l) (hl : l.length ≤ 9223372036854775807) :
    Calls Try.prog 14 #[.slice a l.length cap, .slice a' l.length cap'] w fun e w' => e = .returned (.bool true) ∧ ∃ n, w' = w.drewN n := by
  have HR0 := Lib.hid h
  have HR1 := Lib.hid h'
  clear h h'
  go_enter Try.func14, Try.ntmps14
  go_wp2
  go_loopw [5] (fun i wr => ∃ k n : Nat, k ≤ l.length ∧ i = .int .i64 (k : Int) ∧ wr = w.drewN n) (fun i _ => l.length - (intOf i).toNat)
  case atStart => exact ⟨0, 0, Nat.zero_le _, rfl, rfl⟩
  case round =>
    obtain ⟨k, n, hk, rfl, rfl⟩ := hrel
    by_cases hlt : k < l.length
    · obtain ⟨b, off, rfl, hblt, hc⟩ : ∃ b off, a = some ⟨b, off, none⟩ ∧ b < w.heap.size ∧ ∀ i (h : i < l.length) j u, (cells l[i])[j]? = some u → w.cell? ⟨b, off + i * 14 + j, none⟩ = some u := HR0.out.2 (by omega)
      obtain ⟨b', off', rfl, hblt', hc'⟩ : ∃ b off, a' = some ⟨b, off, none⟩ ∧ b < w.heap.size ∧ ∀ i (h : i < l.length) j u, (cells l[i])[j]? = some u → w.cell? ⟨b, off + i * 14 + j, none⟩ = some u := HR1.out.2 (by omega)
      have hck := fun j u (hu : (cells l[k])[j]? = some u) => hc k hlt j u hu
      have hck' := fun j u (hu : (cells l[k])[j]? = some u) => hc' k hlt j u hu
      obtain ⟨r, hr⟩ : ∃ r, r = l[k] := ⟨_, rfl⟩
      rw [← hr] at hck hck'
      have hne := fun w => rec_neq r r w
      have heq := fun w => rec_equal r r w
      rw [decide_eq_true (rfl : r = r)] at hne heq
      simp only [Bool.not_true, rv, cells] at hne heq
      obtain ⟨e0, e1, e2, e3, e4, e5, e6, e7, e8, e9, e10, e11, e12, e13⟩ := cells_at hck
      obtain ⟨f0, f1, f2, f3, f4, f5, f6, f7, f8, f9, f10, f11, f12, f13⟩ := cells_at hck'
      clear hck hck' hr hc hc' HR0 HR1
      go_wp2
      go_quiet (fail)
      go_wp2
      go_roundw
      case rel => exact ⟨k + 1, _, by omega, by go_num, rfl⟩
      case measure => simp [intOf]; omega
    · have hkl : k = l.length := by omega
      subst hkl
      go_wp2
      go_ret
      exact ⟨rfl, _, rfl⟩
end Go.Proofs.Ytgjofinbdigmcaa.Rec
namespace Go.Proofs.Ytgjofinbdigmcaa.Rec
open Go.Proofs.Ytgjofinbdigmcaa.Mem
open Go.ChangeShapes Go.WideShapes Go.ChangeAt Go.RowKit
set_option linter.unusedVariables false
set_option linter.unusedSimpArgs false
theorem list_eq_of {α : Type} {l l' : List α} (h : l.length = l'.length) (hk : ∀ j (h1 : j < l.length) (h2 : j < l'.length), l[j] = l'[j]) : l = l' := List.ext_getElem h hk
set_option maxRecDepth 100000 in
set_option maxHeartbeats 4000000 in
theorem same_any (a a' : Option Addr) (cap cap' : Nat) (l l' : List Rcd) (w : World) (h : Recs w a l) (h' : Recs w a' l') (hl : l.length ≤ 9223372036854775807) (hl' : l'.length ≤ 9223372036854775807) :
    Calls Try.prog 14 #[.slice a l.length cap, .slice a' l'.length cap'] w fun e w' => e = .returned (.bool (decide (l = l'))) ∧ ∃ n, w' = w.drewN n := by
  by_cases hlen : l.length = l'.length
  · have HR0 := Lib.hid h
    have HR1 := Lib.hid h'
    have HLE := Lib.hid hlen
    rw [← hlen]
    clear h h'
    go_enter Try.func14, Try.ntmps14
    go_wp2
    go_loopw [5] (fun i wr => ∃ k n : Nat, k ≤ l.length ∧ i = .int .i64 (k : Int) ∧ wr = w.drewN n ∧ (∀ j (h1 : j < l.length) (h2 : j < l'.length), j < k → l[j] = l'[j])) (fun i _ => l.length - (intOf i).toNat)
    case atStart => exact ⟨0, 0, Nat.zero_le _, rfl, rfl, fun j _ _ hj => by omega⟩
    case round =>
      obtain ⟨k, n, hk, rfl, rfl, hall⟩ := hrel
      have HALL := Lib.hid hall
      clear hall
      by_cases hlt : k < l.length
      · have hlt' : k < l'.length := by have := HLE.out; omega
        obtain ⟨b, off, rfl, hblt, hc⟩ : ∃ b off, a = some ⟨b, off, none⟩ ∧ b < w.heap.size ∧ ∀ i (h : i < l.length) j u, (cells l[i])[j]? = some u → w.cell? ⟨b, off + i * 14 + j, none⟩ = some u := HR0.out.2 (by omega)
        obtain ⟨b', off', rfl, hblt', hc'⟩ : ∃ b off, a' = some ⟨b, off, none⟩ ∧ b < w.heap.size ∧ ∀ i (h : i < l'.length) j u, (cells l'[i])[j]? = some u → w.cell? ⟨b, off + i * 14 + j, none⟩ = some u := HR1.out.2 (by omega)
        have hck := fun j u (hu : (cells l[k])[j]? = some u) => hc k hlt j u hu
        have hck' := fun j u (hu : (cells l'[k])[j]? = some u) => hc' k hlt' j u hu
        have HEQ := Lib.hid (show ∀ r r', r = l[k] → r' = l'[k] → (r = r' → ∀ j (h1 : j < l.length) (h2 : j < l'.length), j < k + 1 → l[j] = l'[j]) ∧ (r ≠ r' → l ≠ l') from fun r r' h1 h2 => ⟨fun e j h3 h4 hj => by
            by_cases hjk : j = k
            · subst hjk; rw [← h1, ← h2, e]
            · exact HALL.out j h3 h4 (by omega), fun e hll => by
            subst hll
            exact e (h1.trans h2.symm)⟩)
        obtain ⟨r, hr⟩ : ∃ r, r = l[k] := ⟨_, rfl⟩
        obtain ⟨r', hr'⟩ : ∃ r', r' = l'[k] := ⟨_, rfl⟩
        have HE := Lib.hid (HEQ.out r r' hr hr')
        rw [← hr] at hck
        rw [← hr'] at hck'
        have hne := fun w => rec_neq r r' w
        have heq := fun w => rec_equal r r' w
        obtain ⟨e0, e1, e2, e3, e4, e5, e6, e7, e8, e9, e10, e11, e12, e13⟩ := cells_at hck
        obtain ⟨f0, f1, f2, f3, f4, f5, f6, f7, f8, f9, f10, f11, f12, f13⟩ := cells_at hck'
        by_cases hrr : r = r'
        · have HX := Lib.hid (HE.out.1 hrr)
          rw [decide_eq_true hrr] at hne heq
          simp only [Bool.not_true, rv, cells] at hne heq
          clear hck hck' hr hr' hc hc' HR0 HR1 hrr HE HEQ HALL
          go_wp2
          go_quiet (fail)
          go_wp2
          go_roundw
          case rel => exact ⟨k + 1, _, by omega, by go_num, rfl, HX.out⟩
          case measure => simp [intOf]; omega
        · have HX := Lib.hid (HE.out.2 hrr)
          rw [decide_eq_false hrr] at hne heq
          simp only [Bool.not_false, rv, cells] at hne heq
          clear hck hck' hr hr' hc hc' HR0 HR1 hrr HE HEQ HALL
          go_wp2
          go_quiet (fail)
          go_wp2
          go_ret
          exact ⟨by rw [decide_eq_false HX.out]; rfl, n + nq, by rw [World.drewN_drewN]⟩
      · have hkl : k = l.length := by omega
        have hll : l = l' := list_eq_of HLE.out (fun j h1 h2 => HALL.out j h1 h2 (by omega))
        subst hkl
        go_wp2
        go_ret
        exact ⟨by rw [decide_eq_true hll]; rfl, _, rfl⟩
  · have hne : decide (l = l') = false := decide_eq_false (fun e => hlen (by rw [e]))
    rw [hne]
    have hl1 : ((l.length : Int) == (l'.length : Int)) = false := beq_eq_false_iff_ne.2 (by omega)
    obtain ⟨n, hn⟩ : ∃ n, n = l.length := ⟨_, rfl⟩
    obtain ⟨n', hn'⟩ : ∃ n', n' = l'.length := ⟨_, rfl⟩
    rw [← hn] at hl1 hl ⊢
    rw [← hn'] at hl1 hl' ⊢
    clear hn hn' hne hlen h h'
    go_enter Try.func14, Try.ntmps14
    go_wp2
    go_ret
    exact ⟨rfl, 0, rfl⟩
end Go.Proofs.Ytgjofinbdigmcaa.Rec
namespace Go.Proofs.Ytgjofinbdigmcaa.Rec
open Go.Proofs.Ytgjofinbdigmcaa.Mem Go.Proofs.Ytgjofinbdigmcaa.Pack Go.Proofs.Ytgjofinbdigmcaa.Err
open Go.ChangeShapes Go.WideShapes Go.ChangeAt Go.RowKit
set_option linter.unusedVariables false
set_option linter.unusedSimpArgs false

def costOf (r : Rcd) : Int := if May r then (((bytesOf r).length + 8 : Nat) : Int) else 0
theorem size_is (n : Int) (h0 : 0 ≤ n) (h : n ≤ 9000000000) (w : World) : Calls Try.prog 39 #[.int .i64 n] w fun e w' => e = .returned (.int .i64 (n + 8)) ∧ w = w' := by
  go_enter Try.func39, Try.ntmps39
  go_wp2
  go_ret
  exact ⟨ret_int (by omega), rfl⟩
set_option maxRecDepth 100000 in
set_option maxHeartbeats 2000000 in
theorem cost_any (r : Rcd) (hi : Is r) (w : World) : Calls Try.prog 26 #[rv r] w fun e w' => e = .returned (.int .i64 (costOf r)) ∧ Below w.heap.size w w' := by
  have hm := fun w => may_any r w
  have hp := fun hmr v len xs base w hown hb hl => rput_any r hmr hi v len xs base w hown hb hl
  simp only [rv, cells] at hm hp ⊢
  have HP := Lib.hid hp
  have HM := Lib.hid hm
  clear hm hp
  go_enter Try.func26, Try.ntmps26
  go_wp2_with fail
  refine (HM.out _).mono ?_
  rintro e w1 ⟨rfl, hb1⟩
  have hbox1 : Box w1 w.heap.size (cells r) := (hb1.block w.heap.size (by simp)).trans (heap_new w _)
  simp only [cells] at hbox1
  have hbw1 : Below w.heap.size w w1 := ((Below.refl _ w).alloc (Nat.le_refl _) _).trans (hb1.mono (by simp))
  have HBX := Lib.hid (show _ = _ from hbox1)
  have HB := Lib.hid hbw1
  clear hb1 hbox1 hbw1
  by_cases hmr : May r
  · rw [decide_eq_true hmr]
    have hc : costOf r = (((bytesOf r).length + 8 : Nat) : Int) := if_pos hmr
    have hbl := bytesOf_len hmr
    have HC := Lib.hid hc
    clear hc
    go_wp2_with (refine wpList_load_row rfl 33 _ rfl w.heap.size rfl 33 _ (0, 0) _ HBX.out Try.underlying33 rfl rec_size ?_)
    refine (HP.out hmr (.slice none 0 0) 0 [] w1.heap.size w1 (World.ownsRow_nil _ _ _ _) (Nat.le_refl _) (by omega)).mono ?_
    rintro e w2 ⟨v2, rfl, ho2, hb2⟩
    obtain ⟨a2, c2, rfl, hr2, hl2, -⟩ := own_shape (xs := bytesOf r) (by simpa using ho2) (bytesOf_bytes r)
    have HB2 := Lib.hid (HB.out.trans (hb2.mono HB.out.size))
    obtain ⟨m, hm⟩ : ∃ m, m = (bytesOf r).length := ⟨_, rfl⟩
    rw [← hm] at hbl HC ⊢
    clear ho2 hr2 hl2 hb2 HBX hm
    go_wp2_with fail
    refine (size_is (m : Int) (by omega) (by omega) _).mono ?_
    rintro e w3 ⟨rfl, rfl⟩
    go_wp2_with fail
    go_ret
    exact ⟨by rw [HC.out]; rfl, HB2.out⟩
  · rw [decide_eq_false hmr]
    have HC := Lib.hid (show costOf r = 0 from if_neg hmr)
    go_wp2_with fail
    go_ret
    exact ⟨by rw [HC.out]; rfl, HB.out⟩
end Go.Proofs.Ytgjofinbdigmcaa.Rec
