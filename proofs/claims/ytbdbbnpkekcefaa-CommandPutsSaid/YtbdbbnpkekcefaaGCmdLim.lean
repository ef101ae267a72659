/- In one text: Whether a request is within its limits: the walks of quota.May and of command's own. Whether a request is within its limits, and its bytes if it is. -/
import Derived.Test.YtbdbbnpkekcefaaGCmdPutAll
namespace Go.Proofs.Ytbdbbnpkekcefaa.Cmd
open Go.Proofs.Ytbdbbnpkekcefaa.Mem Go.Proofs.Ytbdbbnpkekcefaa.Pack
open Go.ChangeShapes Go.WideShapes Go.ChangeAt Go.RowKit
set_option linter.unusedVariables false
set_option linter.unusedSimpArgs false

theorem part_any (n : Int) (w : World) : Calls Try.prog 64 #[.int .i64 n] w fun e w' => e = .returned (.bool (decide (inQ n))) ∧ w = w' := by
  by_cases h1 : 0 ≤ n
  · by_cases h2 : n ≤ 1099511627776
    · have d2 : decide (n ≤ 1099511627776) = true := decide_eq_true h2
      have hq : decide (inQ n) = true := decide_eq_true ⟨h1, h2⟩
      rw [hq]
      clear hq
      go_enter Try.func64, Try.ntmps64
      go_wp2
      go_ret
      exact ⟨rfl, rfl⟩
    · have d2 : decide (n ≤ 1099511627776) = false := decide_eq_false h2
      have hq : decide (inQ n) = false := decide_eq_false (fun e => h2 e.2)
      rw [hq]
      clear hq
      go_enter Try.func64, Try.ntmps64
      go_wp2
      go_ret
      exact ⟨rfl, rfl⟩
  · have d1 : decide (0 ≤ n) = false := decide_eq_false h1
    have hq : decide (inQ n) = false := decide_eq_false (fun e => h1 e.1)
    rw [hq]
    clear hq
    go_enter Try.func64, Try.ntmps64
    go_wp2
    go_ret
    exact ⟨rfl, rfl⟩
theorem rin_any (n : Int) (w : World) : Calls Try.prog 56 #[.int .i64 n] w fun e w' => e = .returned (.bool (decide (inQ n))) ∧ w = w' := by
  by_cases h1 : 0 ≤ n
  · by_cases h2 : n ≤ 1099511627776
    · have d2 : decide (n ≤ 1099511627776) = true := decide_eq_true h2
      have hq : decide (inQ n) = true := decide_eq_true ⟨h1, h2⟩
      rw [hq]
      clear hq
      go_enter Try.func56, Try.ntmps56
      go_wp2
      go_ret
      exact ⟨rfl, rfl⟩
    · have d2 : decide (n ≤ 1099511627776) = false := decide_eq_false h2
      have hq : decide (inQ n) = false := decide_eq_false (fun e => h2 e.2)
      rw [hq]
      clear hq
      go_enter Try.func56, Try.ntmps56
      go_wp2
      go_ret
      exact ⟨rfl, rfl⟩
  · have d1 : decide (0 ≤ n) = false := decide_eq_false h1
    have hq : decide (inQ n) = false := decide_eq_false (fun e => h1 e.1)
    rw [hq]
    clear hq
    go_enter Try.func56, Try.ntmps56
    go_wp2
    go_ret
    exact ⟨rfl, rfl⟩
theorem mayQuo_eq (q : Quo) : mayQuo q = (decide (inQ q.k) && (decide (inQ q.b) && decide (inQ q.g))) := by unfold mayQuo; simp
set_option maxRecDepth 100000 in
set_option maxHeartbeats 1000000 in
theorem may_any (q : Quo) (w : World) : Calls Try.prog 49 #[qv q] w fun e w' => e = .returned (.bool (mayQuo q)) ∧ Below w.heap.size w w' := by
  have k1 := fun w => part_any q.k w
  have k2 := fun w => part_any q.b w
  have k3 := fun w => part_any q.g w
  rw [mayQuo_eq]
  obtain ⟨k, b, g⟩ := q
  have hb : Below w.heap.size w (w.alloc (.cells #[.int .i64 k, .int .i64 b, .int .i64 g] 26)) := (Below.refl _ _).alloc (Nat.le_refl _) _
  have HB := Lib.hid hb
  clear hb
  simp only [qv] at k1 k2 k3 ⊢
  generalize decide (inQ k) = b1 at *
  generalize decide (inQ b) = b2 at *
  generalize decide (inQ g) = b3 at *
  cases b1
  · go_enter Try.func49, Try.ntmps49
    go_wp2_with fail
    refine (k1 _).mono ?_
    rintro e w1 ⟨rfl, rfl⟩
    go_wp2_with fail
    go_ret
    exact ⟨rfl, HB.out⟩
  · cases b2
    · go_enter Try.func49, Try.ntmps49
      go_wp2_with fail
      refine (k1 _).mono ?_
      rintro e w1 ⟨rfl, rfl⟩
      go_wp2_with fail
      refine (k2 _).mono ?_
      rintro e w1 ⟨rfl, rfl⟩
      go_wp2_with fail
      go_ret
      exact ⟨rfl, HB.out⟩
    · go_enter Try.func49, Try.ntmps49
      go_wp2_with fail
      refine (k1 _).mono ?_
      rintro e w1 ⟨rfl, rfl⟩
      go_wp2_with fail
      refine (k2 _).mono ?_
      rintro e w1 ⟨rfl, rfl⟩
      go_wp2_with fail
      refine (k3 _).mono ?_
      rintro e w1 ⟨rfl, rfl⟩
      go_wp2_with fail
      go_ret
      exact ⟨by simp, HB.out⟩
set_option maxRecDepth 100000 in
set_option maxHeartbeats 1000000 in
theorem rquo_any (q : Quo) (w : World) : Calls Try.prog 26 #[qv q] w fun e w' => e = .returned (.bool (mayQuo q)) ∧ Below w.heap.size w w' := by
  have k1 := fun w => rin_any q.k w
  have k2 := fun w => rin_any q.b w
  have k3 := fun w => rin_any q.g w
  rw [mayQuo_eq]
  obtain ⟨k, b, g⟩ := q
  have hb : Below w.heap.size w (w.alloc (.cells #[.int .i64 k, .int .i64 b, .int .i64 g] 26)) := (Below.refl _ _).alloc (Nat.le_refl _) _
  have HB := Lib.hid hb
  clear hb
  simp only [qv] at k1 k2 k3 ⊢
  generalize decide (inQ k) = b1 at *
  generalize decide (inQ b) = b2 at *
  generalize decide (inQ g) = b3 at *
  cases b1 <;> cases b2 <;> cases b3 <;>
    (go_enter Try.func26, Try.ntmps26
     go_wp2_with fail
     refine (k1 _).mono ?_
     rintro e w1 ⟨rfl, rfl⟩
     go_wp2_with fail
     refine (k2 _).mono ?_
     rintro e w1 ⟨rfl, rfl⟩
     go_wp2_with fail
     refine (k3 _).mono ?_
     rintro e w1 ⟨rfl, rfl⟩
     go_wp2_with fail
     go_ret
     exact ⟨by simp, HB.out⟩)
set_option maxRecDepth 100000 in
set_option maxHeartbeats 4000000 in
theorem within_6 (l : List Op) (sv : Value) (w : World) (hops : OpsAt w sv l) :
    Calls Try.prog 50 #[.int .i64 6, sv] w fun e w' => e = .returned (.bool (decide (1 ≤ l.length) && (decide (l.length ≤ 1) && l.all opLim))) ∧ Below w.heap.size w w' := by
  obtain ⟨a, cap, rfl, hx⟩ := hops
  have HX := Lib.hid hx
  clear hx
  by_cases n1 : l.length < 1
  · have c1 : decide ((l.length : Int) < 1) = true := decide_eq_true (by omega)
    have hd : decide (1 ≤ l.length) = false := decide_eq_false (by omega)
    rw [hd]
    clear hd
    go_enter Try.func50, Try.ntmps50
    go_wp2_with fail
    go_ret
    exact ⟨rfl, Below.refl _ _⟩
  have c1 : decide ((l.length : Int) < 1) = false := decide_eq_false (by omega)
  have hd : decide (1 ≤ l.length) = true := decide_eq_true (by omega)
  rw [hd, Bool.true_and]
  clear hd
  by_cases n2 : 1 < l.length
  · have c2 : decide ((1 : Int) < (l.length : Int)) = true := decide_eq_true (by omega)
    have hd : decide (l.length ≤ 1) = false := decide_eq_false (by omega)
    rw [hd]
    clear hd
    go_enter Try.func50, Try.ntmps50
    go_wp2_with fail
    go_ret
    exact ⟨rfl, Below.refl _ _⟩
  have c2 : decide ((1 : Int) < (l.length : Int)) = false := decide_eq_false (by omega)
  have hd : decide (l.length ≤ 1) = true := decide_eq_true (by omega)
  rw [hd, Bool.true_and]
  clear hd
  go_enter Try.func50, Try.ntmps50
  go_wp2_with fail
  go_loopw [8, 28] (fun p i wr => ∃ k : Nat, k ≤ l.length ∧ i = .int .i64 (k : Int) ∧ (∀ o ∈ l.take k, opLim o = true) ∧ Below w.heap.size w wr) (fun _ i _ => l.length - (intOf i).toNat)
  case atStart => exact ⟨0, Nat.zero_le _, rfl, fun o ho => absurd ho List.not_mem_nil, Below.refl _ _⟩
  case round =>
    obtain ⟨k, hk, rfl, hall, hbr⟩ := hrel
    by_cases hlt : k < l.length
    · obtain ⟨b, off, rfl, hblt, hc⟩ := HX.out (by omega)
      obtain ⟨o, hoe⟩ : ∃ o, o = l[k] := ⟨_, rfl⟩
      have hcr : ∀ i (h : i < l.length) j u, (ocells l[i])[j]? = some u → wr.cell? ⟨b, off + i * 5 + j, none⟩ = some u := fun i hi j u hu => (hbr.cell (p := ⟨b, off + i * 5 + j, none⟩) hblt).trans (hc i hi j u hu)
      obtain ⟨e0, e1, e2, e3, e4⟩ := OpsAt.cells hcr hlt hoe
      have HOE := Lib.hid (And.intro hoe hall)
      have HB2 := Lib.hid (hbr.alloc hbr.size (.cells #[.bool o.del, .string o.key, .string o.val, .int .u64 (o.cond : Int), .int .u64 (o.ttl : Int)] 87))
      have hlim : opLim o = (decide (1 ≤ o.key.size) && (decide (o.key.size ≤ 64) && decide (o.val.size ≤ 1000))) := rfl
      have HL := Lib.hid hlim
      clear hoe hc hcr hbr hall hlim
      have hno : opLim o = false → (l.all opLim) = false := fun h => by
        rw [List.all_eq_false]
        exact ⟨o, HOE.out.1 ▸ List.getElem_mem hlt, by rw [h]; simp⟩
      have HNO := Lib.hid hno
      clear hno
      obtain ⟨n, hn⟩ : ∃ n, n = o.key.size := ⟨_, rfl⟩
      obtain ⟨m, hm⟩ : ∃ m, m = o.val.size := ⟨_, rfl⟩
      have hn1 : (o.key.size : Int) = (n : Int) := by rw [hn]
      have hm1 : (o.val.size : Int) = (m : Int) := by rw [hm]
      rw [← hn, ← hm] at HL
      clear hn hm
      by_cases a1 : n < 1
      · have d1 : decide ((n : Int) < 1) = true := decide_eq_true (by omega)
        have HR := Lib.hid (HNO.out (by rw [HL.out, decide_eq_false (by omega)]; rfl))
        go_wp2_with fail
        go_ret
        exact ⟨by rw [HR.out]; simp, HB2.out⟩
      have d1 : decide ((n : Int) < 1) = false := decide_eq_false (by omega)
      by_cases a2 : 64 < n
      · have d2 : decide ((64 : Int) < (n : Int)) = true := decide_eq_true (by omega)
        have HR := Lib.hid (HNO.out (by rw [HL.out, decide_eq_false (show ¬ n ≤ 64 by omega)]; simp))
        go_wp2_with fail
        go_ret
        exact ⟨by rw [HR.out]; simp, HB2.out⟩
      have d2 : decide ((64 : Int) < (n : Int)) = false := decide_eq_false (by omega)
      by_cases a3 : 1000 < m
      · have d3 : decide ((1000 : Int) < (m : Int)) = true := decide_eq_true (by omega)
        have HR := Lib.hid (HNO.out (by rw [HL.out, decide_eq_false (show ¬ m ≤ 1000 by omega)]; simp))
        go_wp2_with fail
        go_ret
        exact ⟨by rw [HR.out]; simp, HB2.out⟩
      have d3 : decide ((1000 : Int) < (m : Int)) = false := decide_eq_false (by omega)
      have hyes : opLim o = true := by rw [HL.out, decide_eq_true (show 1 ≤ n by omega), decide_eq_true (show n ≤ 64 by omega), decide_eq_true (show m ≤ 1000 by omega)]; rfl
      have HY := Lib.hid hyes
      clear hyes
      go_wp2_with fail
      go_roundw
      case rel =>
        refine ⟨k + 1, by omega, by go_num, fun x hx => ?_, HB2.out⟩
        rw [List.take_succ_eq_append_getElem hlt] at hx
        rcases List.mem_append.1 hx with h | h
        · exact HOE.out.2 x h
        · rw [List.mem_singleton.1 h, ← HOE.out.1]; exact HY.out
      case measure => simp [intOf]; omega
    · have hkl : k = l.length := by omega
      subst hkl
      rw [List.take_of_length_le (Nat.le_refl _)] at hall
      have HF := Lib.hid (And.intro hall hbr)
      clear hall hbr hlt hk
      go_wp2_with fail
      go_ret
      exact ⟨by rw [show l.all opLim = true from List.all_eq_true.2 HF.out.1]; simp, HF.out.2⟩
set_option maxRecDepth 100000 in
set_option maxHeartbeats 4000000 in
theorem within_7 (l : List Op) (sv : Value) (w : World) (hops : OpsAt w sv l) :
    Calls Try.prog 50 #[.int .i64 7, sv] w fun e w' => e = .returned (.bool (decide (1 ≤ l.length) && (decide (l.length ≤ 1) && l.all opLim))) ∧ Below w.heap.size w w' := by
  obtain ⟨a, cap, rfl, hx⟩ := hops
  have HX := Lib.hid hx
  clear hx
  by_cases n1 : l.length < 1
  · have c1 : decide ((l.length : Int) < 1) = true := decide_eq_true (by omega)
    have hd : decide (1 ≤ l.length) = false := decide_eq_false (by omega)
    rw [hd]
    clear hd
    go_enter Try.func50, Try.ntmps50
    go_wp2_with fail
    go_ret
    exact ⟨rfl, Below.refl _ _⟩
  have c1 : decide ((l.length : Int) < 1) = false := decide_eq_false (by omega)
  have hd : decide (1 ≤ l.length) = true := decide_eq_true (by omega)
  rw [hd, Bool.true_and]
  clear hd
  by_cases n2 : 1 < l.length
  · have c2 : decide ((1 : Int) < (l.length : Int)) = true := decide_eq_true (by omega)
    have hd : decide (l.length ≤ 1) = false := decide_eq_false (by omega)
    rw [hd]
    clear hd
    go_enter Try.func50, Try.ntmps50
    go_wp2_with fail
    go_ret
    exact ⟨rfl, Below.refl _ _⟩
  have c2 : decide ((1 : Int) < (l.length : Int)) = false := decide_eq_false (by omega)
  have hd : decide (l.length ≤ 1) = true := decide_eq_true (by omega)
  rw [hd, Bool.true_and]
  clear hd
  go_enter Try.func50, Try.ntmps50
  go_wp2_with fail
  go_loopw [8, 28] (fun p i wr => ∃ k : Nat, k ≤ l.length ∧ i = .int .i64 (k : Int) ∧ (∀ o ∈ l.take k, opLim o = true) ∧ Below w.heap.size w wr) (fun _ i _ => l.length - (intOf i).toNat)
  case atStart => exact ⟨0, Nat.zero_le _, rfl, fun o ho => absurd ho List.not_mem_nil, Below.refl _ _⟩
  case round =>
    obtain ⟨k, hk, rfl, hall, hbr⟩ := hrel
    by_cases hlt : k < l.length
    · obtain ⟨b, off, rfl, hblt, hc⟩ := HX.out (by omega)
      obtain ⟨o, hoe⟩ : ∃ o, o = l[k] := ⟨_, rfl⟩
      have hcr : ∀ i (h : i < l.length) j u, (ocells l[i])[j]? = some u → wr.cell? ⟨b, off + i * 5 + j, none⟩ = some u := fun i hi j u hu => (hbr.cell (p := ⟨b, off + i * 5 + j, none⟩) hblt).trans (hc i hi j u hu)
      obtain ⟨e0, e1, e2, e3, e4⟩ := OpsAt.cells hcr hlt hoe
      have HOE := Lib.hid (And.intro hoe hall)
      have HB2 := Lib.hid (hbr.alloc hbr.size (.cells #[.bool o.del, .string o.key, .string o.val, .int .u64 (o.cond : Int), .int .u64 (o.ttl : Int)] 87))
      have hlim : opLim o = (decide (1 ≤ o.key.size) && (decide (o.key.size ≤ 64) && decide (o.val.size ≤ 1000))) := rfl
      have HL := Lib.hid hlim
      clear hoe hc hcr hbr hall hlim
      have hno : opLim o = false → (l.all opLim) = false := fun h => by
        rw [List.all_eq_false]
        exact ⟨o, HOE.out.1 ▸ List.getElem_mem hlt, by rw [h]; simp⟩
      have HNO := Lib.hid hno
      clear hno
      obtain ⟨n, hn⟩ : ∃ n, n = o.key.size := ⟨_, rfl⟩
      obtain ⟨m, hm⟩ : ∃ m, m = o.val.size := ⟨_, rfl⟩
      have hn1 : (o.key.size : Int) = (n : Int) := by rw [hn]
      have hm1 : (o.val.size : Int) = (m : Int) := by rw [hm]
      rw [← hn, ← hm] at HL
      clear hn hm
      by_cases a1 : n < 1
      · have d1 : decide ((n : Int) < 1) = true := decide_eq_true (by omega)
        have HR := Lib.hid (HNO.out (by rw [HL.out, decide_eq_false (by omega)]; rfl))
        go_wp2_with fail
        go_ret
        exact ⟨by rw [HR.out]; simp, HB2.out⟩
      have d1 : decide ((n : Int) < 1) = false := decide_eq_false (by omega)
      by_cases a2 : 64 < n
      · have d2 : decide ((64 : Int) < (n : Int)) = true := decide_eq_true (by omega)
        have HR := Lib.hid (HNO.out (by rw [HL.out, decide_eq_false (show ¬ n ≤ 64 by omega)]; simp))
        go_wp2_with fail
        go_ret
        exact ⟨by rw [HR.out]; simp, HB2.out⟩
      have d2 : decide ((64 : Int) < (n : Int)) = false := decide_eq_false (by omega)
      by_cases a3 : 1000 < m
      · have d3 : decide ((1000 : Int) < (m : Int)) = true := decide_eq_true (by omega)
        have HR := Lib.hid (HNO.out (by rw [HL.out, decide_eq_false (show ¬ m ≤ 1000 by omega)]; simp))
        go_wp2_with fail
        go_ret
        exact ⟨by rw [HR.out]; simp, HB2.out⟩
      have d3 : decide ((1000 : Int) < (m : Int)) = false := decide_eq_false (by omega)
      have hyes : opLim o = true := by rw [HL.out, decide_eq_true (show 1 ≤ n by omega), decide_eq_true (show n ≤ 64 by omega), decide_eq_true (show m ≤ 1000 by omega)]; rfl
      have HY := Lib.hid hyes
      clear hyes
      go_wp2_with fail
      go_roundw
      case rel =>
        refine ⟨k + 1, by omega, by go_num, fun x hx => ?_, HB2.out⟩
        rw [List.take_succ_eq_append_getElem hlt] at hx
        rcases List.mem_append.1 hx with h | h
        · exact HOE.out.2 x h
        · rw [List.mem_singleton.1 h, ← HOE.out.1]; exact HY.out
      case measure => simp [intOf]; omega
    · have hkl : k = l.length := by omega
      subst hkl
      rw [List.take_of_length_le (Nat.le_refl _)] at hall
      have HF := Lib.hid (And.intro hall hbr)
      clear hall hbr hlt hk
      go_wp2_with fail
      go_ret
      exact ⟨by rw [show l.all opLim = true from List.all_eq_true.2 HF.out.1]; simp, HF.out.2⟩
set_option maxRecDepth 100000 in
set_option maxHeartbeats 4000000 in
theorem within_8 (l : List Op) (sv : Value) (w : World) (hops : OpsAt w sv l) :
    Calls Try.prog 50 #[.int .i64 8, sv] w fun e w' => e = .returned (.bool (decide (1 ≤ l.length) && (decide (l.length ≤ 1) && l.all opLim))) ∧ Below w.heap.size w w' := by
  obtain ⟨a, cap, rfl, hx⟩ := hops
  have HX := Lib.hid hx
  clear hx
  by_cases n1 : l.length < 1
  · have c1 : decide ((l.length : Int) < 1) = true := decide_eq_true (by omega)
    have hd : decide (1 ≤ l.length) = false := decide_eq_false (by omega)
    rw [hd]
    clear hd
    go_enter Try.func50, Try.ntmps50
    go_wp2_with fail
    go_ret
    exact ⟨rfl, Below.refl _ _⟩
  have c1 : decide ((l.length : Int) < 1) = false := decide_eq_false (by omega)
  have hd : decide (1 ≤ l.length) = true := decide_eq_true (by omega)
  rw [hd, Bool.true_and]
  clear hd
  by_cases n2 : 1 < l.length
  · have c2 : decide ((1 : Int) < (l.length : Int)) = true := decide_eq_true (by omega)
    have hd : decide (l.length ≤ 1) = false := decide_eq_false (by omega)
    rw [hd]
    clear hd
    go_enter Try.func50, Try.ntmps50
    go_wp2_with fail
    go_ret
    exact ⟨rfl, Below.refl _ _⟩
  have c2 : decide ((1 : Int) < (l.length : Int)) = false := decide_eq_false (by omega)
  have hd : decide (l.length ≤ 1) = true := decide_eq_true (by omega)
  rw [hd, Bool.true_and]
  clear hd
  go_enter Try.func50, Try.ntmps50
  go_wp2_with fail
  go_loopw [8, 28] (fun p i wr => ∃ k : Nat, k ≤ l.length ∧ i = .int .i64 (k : Int) ∧ (∀ o ∈ l.take k, opLim o = true) ∧ Below w.heap.size w wr) (fun _ i _ => l.length - (intOf i).toNat)
  case atStart => exact ⟨0, Nat.zero_le _, rfl, fun o ho => absurd ho List.not_mem_nil, Below.refl _ _⟩
  case round =>
    obtain ⟨k, hk, rfl, hall, hbr⟩ := hrel
    by_cases hlt : k < l.length
    · obtain ⟨b, off, rfl, hblt, hc⟩ := HX.out (by omega)
      obtain ⟨o, hoe⟩ : ∃ o, o = l[k] := ⟨_, rfl⟩
      have hcr : ∀ i (h : i < l.length) j u, (ocells l[i])[j]? = some u → wr.cell? ⟨b, off + i * 5 + j, none⟩ = some u := fun i hi j u hu => (hbr.cell (p := ⟨b, off + i * 5 + j, none⟩) hblt).trans (hc i hi j u hu)
      obtain ⟨e0, e1, e2, e3, e4⟩ := OpsAt.cells hcr hlt hoe
      have HOE := Lib.hid (And.intro hoe hall)
      have HB2 := Lib.hid (hbr.alloc hbr.size (.cells #[.bool o.del, .string o.key, .string o.val, .int .u64 (o.cond : Int), .int .u64 (o.ttl : Int)] 87))
      have hlim : opLim o = (decide (1 ≤ o.key.size) && (decide (o.key.size ≤ 64) && decide (o.val.size ≤ 1000))) := rfl
      have HL := Lib.hid hlim
      clear hoe hc hcr hbr hall hlim
      have hno : opLim o = false → (l.all opLim) = false := fun h => by
        rw [List.all_eq_false]
        exact ⟨o, HOE.out.1 ▸ List.getElem_mem hlt, by rw [h]; simp⟩
      have HNO := Lib.hid hno
      clear hno
      obtain ⟨n, hn⟩ : ∃ n, n = o.key.size := ⟨_, rfl⟩
      obtain ⟨m, hm⟩ : ∃ m, m = o.val.size := ⟨_, rfl⟩
      have hn1 : (o.key.size : Int) = (n : Int) := by rw [hn]
      have hm1 : (o.val.size : Int) = (m : Int) := by rw [hm]
      rw [← hn, ← hm] at HL
      clear hn hm
      by_cases a1 : n < 1
      · have d1 : decide ((n : Int) < 1) = true := decide_eq_true (by omega)
        have HR := Lib.hid (HNO.out (by rw [HL.out, decide_eq_false (by omega)]; rfl))
        go_wp2_with fail
        go_ret
        exact ⟨by rw [HR.out]; simp, HB2.out⟩
      have d1 : decide ((n : Int) < 1) = false := decide_eq_false (by omega)
      by_cases a2 : 64 < n
      · have d2 : decide ((64 : Int) < (n : Int)) = true := decide_eq_true (by omega)
        have HR := Lib.hid (HNO.out (by rw [HL.out, decide_eq_false (show ¬ n ≤ 64 by omega)]; simp))
        go_wp2_with fail
        go_ret
        exact ⟨by rw [HR.out]; simp, HB2.out⟩
      have d2 : decide ((64 : Int) < (n : Int)) = false := decide_eq_false (by omega)
      by_cases a3 : 1000 < m
      · have d3 : decide ((1000 : Int) < (m : Int)) = true := decide_eq_true (by omega)
        have HR := Lib.hid (HNO.out (by rw [HL.out, decide_eq_false (show ¬ m ≤ 1000 by omega)]; simp))
        go_wp2_with fail
        go_ret
        exact ⟨by rw [HR.out]; simp, HB2.out⟩
      have d3 : decide ((1000 : Int) < (m : Int)) = false := decide_eq_false (by omega)
      have hyes : opLim o = true := by rw [HL.out, decide_eq_true (show 1 ≤ n by omega), decide_eq_true (show n ≤ 64 by omega), decide_eq_true (show m ≤ 1000 by omega)]; rfl
      have HY := Lib.hid hyes
      clear hyes
      go_wp2_with fail
      go_roundw
      case rel =>
        refine ⟨k + 1, by omega, by go_num, fun x hx => ?_, HB2.out⟩
        rw [List.take_succ_eq_append_getElem hlt] at hx
        rcases List.mem_append.1 hx with h | h
        · exact HOE.out.2 x h
        · rw [List.mem_singleton.1 h, ← HOE.out.1]; exact HY.out
      case measure => simp [intOf]; omega
    · have hkl : k = l.length := by omega
      subst hkl
      rw [List.take_of_length_le (Nat.le_refl _)] at hall
      have HF := Lib.hid (And.intro hall hbr)
      clear hall hbr hlt hk
      go_wp2_with fail
      go_ret
      exact ⟨by rw [show l.all opLim = true from List.all_eq_true.2 HF.out.1]; simp, HF.out.2⟩
set_option maxRecDepth 100000 in
set_option maxHeartbeats 4000000 in
theorem within_9 (l : List Op) (sv : Value) (w : World) (hops : OpsAt w sv l) :
    Calls Try.prog 50 #[.int .i64 9, sv] w fun e w' => e = .returned (.bool (decide (1 ≤ l.length) && (decide (l.length ≤ 16) && l.all opLim))) ∧ Below w.heap.size w w' := by
  obtain ⟨a, cap, rfl, hx⟩ := hops
  have HX := Lib.hid hx
  clear hx
  by_cases n1 : l.length < 1
  · have c1 : decide ((l.length : Int) < 1) = true := decide_eq_true (by omega)
    have hd : decide (1 ≤ l.length) = false := decide_eq_false (by omega)
    rw [hd]
    clear hd
    go_enter Try.func50, Try.ntmps50
    go_wp2_with fail
    go_ret
    exact ⟨rfl, Below.refl _ _⟩
  have c1 : decide ((l.length : Int) < 1) = false := decide_eq_false (by omega)
  have hd : decide (1 ≤ l.length) = true := decide_eq_true (by omega)
  rw [hd, Bool.true_and]
  clear hd
  by_cases n2 : 16 < l.length
  · have c2 : decide ((16 : Int) < (l.length : Int)) = true := decide_eq_true (by omega)
    have hd : decide (l.length ≤ 16) = false := decide_eq_false (by omega)
    rw [hd]
    clear hd
    go_enter Try.func50, Try.ntmps50
    go_wp2_with fail
    go_ret
    exact ⟨rfl, Below.refl _ _⟩
  have c2 : decide ((16 : Int) < (l.length : Int)) = false := decide_eq_false (by omega)
  have hd : decide (l.length ≤ 16) = true := decide_eq_true (by omega)
  rw [hd, Bool.true_and]
  clear hd
  go_enter Try.func50, Try.ntmps50
  go_wp2_with fail
  go_loopw [8, 28] (fun p i wr => ∃ k : Nat, k ≤ l.length ∧ i = .int .i64 (k : Int) ∧ (∀ o ∈ l.take k, opLim o = true) ∧ Below w.heap.size w wr) (fun _ i _ => l.length - (intOf i).toNat)
  case atStart => exact ⟨0, Nat.zero_le _, rfl, fun o ho => absurd ho List.not_mem_nil, Below.refl _ _⟩
  case round =>
    obtain ⟨k, hk, rfl, hall, hbr⟩ := hrel
    by_cases hlt : k < l.length
    · obtain ⟨b, off, rfl, hblt, hc⟩ := HX.out (by omega)
      obtain ⟨o, hoe⟩ : ∃ o, o = l[k] := ⟨_, rfl⟩
      have hcr : ∀ i (h : i < l.length) j u, (ocells l[i])[j]? = some u → wr.cell? ⟨b, off + i * 5 + j, none⟩ = some u := fun i hi j u hu => (hbr.cell (p := ⟨b, off + i * 5 + j, none⟩) hblt).trans (hc i hi j u hu)
      obtain ⟨e0, e1, e2, e3, e4⟩ := OpsAt.cells hcr hlt hoe
      have HOE := Lib.hid (And.intro hoe hall)
      have HB2 := Lib.hid (hbr.alloc hbr.size (.cells #[.bool o.del, .string o.key, .string o.val, .int .u64 (o.cond : Int), .int .u64 (o.ttl : Int)] 87))
      have hlim : opLim o = (decide (1 ≤ o.key.size) && (decide (o.key.size ≤ 64) && decide (o.val.size ≤ 1000))) := rfl
      have HL := Lib.hid hlim
      clear hoe hc hcr hbr hall hlim
      have hno : opLim o = false → (l.all opLim) = false := fun h => by
        rw [List.all_eq_false]
        exact ⟨o, HOE.out.1 ▸ List.getElem_mem hlt, by rw [h]; simp⟩
      have HNO := Lib.hid hno
      clear hno
      obtain ⟨n, hn⟩ : ∃ n, n = o.key.size := ⟨_, rfl⟩
      obtain ⟨m, hm⟩ : ∃ m, m = o.val.size := ⟨_, rfl⟩
      have hn1 : (o.key.size : Int) = (n : Int) := by rw [hn]
      have hm1 : (o.val.size : Int) = (m : Int) := by rw [hm]
      rw [← hn, ← hm] at HL
      clear hn hm
      by_cases a1 : n < 1
      · have d1 : decide ((n : Int) < 1) = true := decide_eq_true (by omega)
        have HR := Lib.hid (HNO.out (by rw [HL.out, decide_eq_false (by omega)]; rfl))
        go_wp2_with fail
        go_ret
        exact ⟨by rw [HR.out]; simp, HB2.out⟩
      have d1 : decide ((n : Int) < 1) = false := decide_eq_false (by omega)
      by_cases a2 : 64 < n
      · have d2 : decide ((64 : Int) < (n : Int)) = true := decide_eq_true (by omega)
        have HR := Lib.hid (HNO.out (by rw [HL.out, decide_eq_false (show ¬ n ≤ 64 by omega)]; simp))
        go_wp2_with fail
        go_ret
        exact ⟨by rw [HR.out]; simp, HB2.out⟩
      have d2 : decide ((64 : Int) < (n : Int)) = false := decide_eq_false (by omega)
      by_cases a3 : 1000 < m
      · have d3 : decide ((1000 : Int) < (m : Int)) = true := decide_eq_true (by omega)
        have HR := Lib.hid (HNO.out (by rw [HL.out, decide_eq_false (show ¬ m ≤ 1000 by omega)]; simp))
        go_wp2_with fail
        go_ret
        exact ⟨by rw [HR.out]; simp, HB2.out⟩
      have d3 : decide ((1000 : Int) < (m : Int)) = false := decide_eq_false (by omega)
      have hyes : opLim o = true := by rw [HL.out, decide_eq_true (show 1 ≤ n by omega), decide_eq_true (show n ≤ 64 by omega), decide_eq_true (show m ≤ 1000 by omega)]; rfl
      have HY := Lib.hid hyes
      clear hyes
      go_wp2_with fail
      go_roundw
      case rel =>
        refine ⟨k + 1, by omega, by go_num, fun x hx => ?_, HB2.out⟩
        rw [List.take_succ_eq_append_getElem hlt] at hx
        rcases List.mem_append.1 hx with h | h
        · exact HOE.out.2 x h
        · rw [List.mem_singleton.1 h, ← HOE.out.1]; exact HY.out
      case measure => simp [intOf]; omega
    · have hkl : k = l.length := by omega
      subst hkl
      rw [List.take_of_length_le (Nat.le_refl _)] at hall
      have HF := Lib.hid (And.intro hall hbr)
      clear hall hbr hlt hk
      go_wp2_with fail
      go_ret
      exact ⟨by rw [show l.all opLim = true from List.all_eq_true.2 HF.out.1]; simp, HF.out.2⟩
set_option maxRecDepth 100000 in
set_option maxHeartbeats 4000000 in
theorem within_0 (tag : Int) (ht : ¬ (6 ≤ tag ∧ tag ≤ 9)) (l : List Op) (sv : Value) (w : World) (hops : OpsAt w sv l) :
    Calls Try.prog 50 #[.int .i64 tag, sv] w fun e w' => e = .returned (.bool (decide (l.length ≤ 0))) ∧ Below w.heap.size w w' := by
  obtain ⟨a, cap, rfl, hx⟩ := hops
  clear hx
  have d6 : (tag == 6) = false := beq_eq_false_iff_ne.2 (by omega)
  have d7 : (tag == 7) = false := beq_eq_false_iff_ne.2 (by omega)
  have d8 : (tag == 8) = false := beq_eq_false_iff_ne.2 (by omega)
  have d9 : (tag == 9) = false := beq_eq_false_iff_ne.2 (by omega)
  clear ht
  have c1 : decide ((l.length : Int) < 0) = false := decide_eq_false (by omega)
  by_cases n2 : 0 < l.length
  · have c2 : decide ((0 : Int) < (l.length : Int)) = true := decide_eq_true (by omega)
    have hd : decide (l.length ≤ 0) = false := decide_eq_false (by omega)
    rw [hd]
    clear hd
    go_enter Try.func50, Try.ntmps50
    go_wp2_with fail
    go_ret
    exact ⟨rfl, Below.refl _ _⟩
  · have hl : l.length = 0 := by omega
    rw [hl]
    clear c1 n2
    go_enter Try.func50, Try.ntmps50
    go_wp2_with fail
    go_loopw [8, 28] (fun p i wr => i = .int .i64 0 ∧ Below w.heap.size w wr) (fun _ _ _ => 0)
    case atStart => exact ⟨rfl, Below.refl _ _⟩
    case round =>
      obtain ⟨rfl, hbr⟩ := hrel
      have HB := Lib.hid hbr
      clear hbr
      go_wp2_with fail
      go_ret
      exact ⟨rfl, HB.out⟩
theorem within_any (tag : Int) (l : List Op) (sv : Value) (w : World) (hops : OpsAt w sv l) :
    Calls Try.prog 50 #[.int .i64 tag, sv] w fun e w' => e = .returned (.bool (opsLim tag l)) ∧ Below w.heap.size w w' := by
  have e1 : ∀ k, 6 ≤ k ∧ k ≤ 9 → leastOf k = 1 := fun k h => if_pos h
  unfold opsLim
  by_cases h6 : tag = 6
  · subst h6; exact within_6 l sv w hops
  by_cases h7 : tag = 7
  · subst h7; exact within_7 l sv w hops
  by_cases h8 : tag = 8
  · subst h8; exact within_8 l sv w hops
  by_cases h9 : tag = 9
  · subst h9; exact within_9 l sv w hops
  have hn : ¬ (6 ≤ tag ∧ tag ≤ 9) := by omega
  have e : (decide (leastOf tag ≤ l.length) && (decide (l.length ≤ mostOf tag) && l.all opLim)) = decide (l.length ≤ 0) := by
    have a1 : leastOf tag = 0 := if_neg hn
    have a2 : mostOf tag = 0 := by unfold mostOf; rw [if_neg h9, if_neg (by omega)]
    rw [a1, a2]
    rcases Nat.eq_zero_or_pos l.length with h | h
    · rw [List.eq_nil_of_length_eq_zero h]; rfl
    · rw [decide_eq_false (show ¬ l.length ≤ 0 by omega)]; simp
  rw [e]
  exact within_0 tag hn l sv w hops
end Go.Proofs.Ytbdbbnpkekcefaa.Cmd
namespace Go.Proofs.Ytbdbbnpkekcefaa.Cmd
open Go.Proofs.Ytbdbbnpkekcefaa.Mem Go.Proofs.Ytbdbbnpkekcefaa.Pack
open Go.ChangeShapes Go.WideShapes Go.ChangeAt Go.RowKit
set_option linter.unusedVariables false
set_option linter.unusedSimpArgs false

theorem lim_small {q : Rq} (h : lim q = true) (hi : RqIs q) : Small q.ops ∧ q.after.size ≤ 64 := by
  have ho := (lim_ops h).1
  unfold lim opsLim at h
  simp only [Bool.and_eq_true, decide_eq_true_eq] at h
  have ha := h.2.2.2.2.1.2.2
  have haf := h.2.2.2.2.2.1
  rw [List.all_eq_true] at ha
  have hk : ∀ o ∈ q.ops, o.key.size ≤ 64 ∧ o.val.size ≤ 1000 := fun o hm => by
    have := ha o hm
    unfold opLim at this
    simp only [Bool.and_eq_true, decide_eq_true_eq] at this
    exact this.2
  exact ⟨⟨hi.ops, fun o hm => by have := (hk o hm).1; omega, fun o hm => by have := (hk o hm).2; omega, by omega⟩, haf⟩
theorem cput_any (q : Rq) (hl : lim q = true) (hi : RqIs q) (sv : Value) (w : World) (hops : OpsAt w sv q.ops) : Calls Try.prog 23 #[rv q sv] w fun e w' => PutIs q w e w' := by
  have ht := lim_tag hl
  obtain ⟨hsm, haf⟩ := lim_small hl hi
  obtain ⟨tag, admin, bucket, ⟨qk, qb, qg⟩, ⟨tb, tg, ts, tx⟩, ops, after, first, count, rights, serial⟩ := q
  have haf : after.size ≤ 65535 := by have : after.size ≤ 64 := haf; omega
  have ht : 1 ≤ tag ∧ tag ≤ 13 := ht
  by_cases c1 : tag = 1 ∨ tag = 3
  · exact put_c1 tag c1 admin bucket qk qb qg tb tg ts tx ops after first count rights serial sv w hi.admin hi.tok hi.serial haf hsm hops _ rfl
  by_cases c2 : tag = 2
  · exact put_c2 tag c2 admin bucket qk qb qg tb tg ts tx ops after first count rights serial sv w hi.admin hi.tok hi.serial haf hsm hops _ rfl
  by_cases c4 : tag = 4 ∨ tag = 5
  · exact put_c4 tag c4 admin bucket qk qb qg tb tg ts tx ops after first count rights serial sv w hi.admin hi.tok hi.serial haf hsm hops _ rfl
  by_cases c6 : 6 ≤ tag ∧ tag ≤ 9
  · exact put_c6 tag c6 admin bucket qk qb qg tb tg ts tx ops after first count rights serial sv w hi.admin hi.tok hi.serial haf hsm hops _ rfl
  by_cases c10 : tag = 10
  · exact put_c10 tag c10 admin bucket qk qb qg tb tg ts tx ops after first count rights serial sv w hi.admin hi.tok hi.serial haf hsm hops _ rfl
  by_cases c11 : tag = 11
  · exact put_c11 tag c11 admin bucket qk qb qg tb tg ts tx ops after first count rights serial sv w hi.admin hi.tok hi.serial haf hsm hops _ rfl
  by_cases c12 : tag = 12
  · exact put_c12 tag c12 admin bucket qk qb qg tb tg ts tx ops after first count rights serial sv w hi.admin hi.tok hi.serial haf hsm hops _ rfl
  by_cases c13 : tag = 13
  · exact put_c13 tag c13 admin bucket qk qb qg tb tg ts tx ops after first count rights serial sv w hi.admin hi.tok hi.serial haf hsm hops _ rfl
  omega
set_option maxRecDepth 100000 in
set_option maxHeartbeats 4000000 in
theorem lim_any (q : Rq) (hi : RqIs q) (sv : Value) (w : World) (hops : OpsAt w sv q.ops) : Calls Try.prog 21 #[rv q sv] w fun e w' => e = .returned (.bool (lim q)) ∧ Below w.heap.size w w' := by
  obtain ⟨tag, admin, bucket, ⟨qk, qb, qg⟩, ⟨tb, tg, ts, tx⟩, ops, after, first, count, rights, serial⟩ := q
  have hops : OpsAt w sv ops := hops
  have hmq := fun w => may_any ⟨qk, qb, qg⟩ w
  have hwi := fun w h => within_any tag ops sv w h
  have hpz := fun h w => parts_0 tag h w
  have hpn : (1 ≤ tag ∧ tag ≤ 13) → ∃ c : Int, (c != 0) = true ∧ ∀ w, Calls Try.prog 43 #[.int .i64 tag] w fun e w' => e = .returned (.int .i64 c) ∧ w = w' := by
    intro h
    by_cases c1 : tag = 1 ∨ tag = 3
    · exact ⟨7, rfl, fun w => parts_c1 c1 w⟩
    by_cases c2 : tag = 2
    · exact ⟨3, rfl, fun w => parts_c2 c2 w⟩
    by_cases c4 : tag = 4 ∨ tag = 5
    · exact ⟨1, rfl, fun w => parts_c4 c4 w⟩
    by_cases c6 : 6 ≤ tag ∧ tag ≤ 9
    · exact ⟨24, rfl, fun w => parts_c6 c6 w⟩
    by_cases c10 : tag = 10
    · exact ⟨40, rfl, fun w => parts_c10 c10 w⟩
    by_cases c11 : tag = 11
    · exact ⟨8, rfl, fun w => parts_c11 c11 w⟩
    by_cases c12 : tag = 12
    · exact ⟨72, rfl, fun w => parts_c12 c12 w⟩
    by_cases c13 : tag = 13
    · exact ⟨136, rfl, fun w => parts_c13 c13 w⟩
    omega
  have hL : lim ⟨tag, admin, bucket, ⟨qk, qb, qg⟩, ⟨tb, tg, ts, tx⟩, ops, after, first, count, rights, serial⟩ = (decide (1 ≤ tag ∧ tag ≤ 13) && (decide (0 ≤ bucket) && (decide (bucket < 64) && (mayQuo ⟨qk, qb, qg⟩ && (opsLim tag ops && (decide ((after.size : Int) ≤ 64) && (decide (0 ≤ count) && (decide (count ≤ 50) && decide (tag ≠ 12 ∨ 1 ≤ rights ∧ rights ≤ 7))))))))) := by
    unfold lim
    simp only
    rw [show decide ((after.size : Int) ≤ 64) = decide (after.size ≤ 64) from decide_eq_decide.2 (by omega)]
  clear hi
  obtain ⟨m4, hm4⟩ : ∃ b, b = mayQuo ⟨qk, qb, qg⟩ := ⟨_, rfl⟩
  obtain ⟨m5, hm5⟩ : ∃ b, b = opsLim tag ops := ⟨_, rfl⟩
  rw [← hm4] at hmq hL
  rw [← hm5] at hwi hL
  clear hm4 hm5
  have HL := Lib.hid hL
  clear hL
  have hbx : Blk (w.alloc (.cells #[.int .i64 tag, .int .u64 (admin : Int), .int .i64 bucket, .int .i64 qk, .int .i64 qb, .int .i64 qg, .int .i64 tb, .int .u32 (tg : Int), .int .u32 (ts : Int), .int .u64 (tx : Int), sv, .string after, .bool first, .int .i64 count, .int .i64 rights, .int .u32 (serial : Int)] 32)) w.heap.size 32 #[.int .i64 tag, .int .u64 (admin : Int), .int .i64 bucket, .int .i64 qk, .int .i64 qb, .int .i64 qg, .int .i64 tb, .int .u32 (tg : Int), .int .u32 (ts : Int), .int .u64 (tx : Int), sv, .string after, .bool first, .int .i64 count, .int .i64 rights, .int .u32 (serial : Int)] := Blk.new _ _ _
  have hbw : Below w.heap.size w (w.alloc (.cells #[.int .i64 tag, .int .u64 (admin : Int), .int .i64 bucket, .int .i64 qk, .int .i64 qb, .int .i64 qg, .int .i64 tb, .int .u32 (tg : Int), .int .u32 (ts : Int), .int .u64 (tx : Int), sv, .string after, .bool first, .int .i64 count, .int .i64 rights, .int .u32 (serial : Int)] 32)) := (Below.refl _ _).alloc (Nat.le_refl _) _
  simp only [rv, rcells]
  have H0 := Lib.hid (And.intro hbx (And.intro hbw hops))
  clear hops
  by_cases d1 : 1 ≤ tag ∧ tag ≤ 13
  rotate_left
  · have hp := hpz (by omega)
    have D1 := Lib.hid (decide_eq_false d1)
    clear hpz hpn hmq hwi hbx
    have HB := Lib.hid hbw
    clear hbw
    go_enter Try.func21, Try.ntmps21
    go_wp2_with fail
    refine (hp _).mono ?_
    rintro e w1 ⟨rfl, rfl⟩
    clear d1
    go_wp2_with fail
    go_ret
    exact ⟨by rw [HL.out, D1.out]; rfl, HB.out⟩
  obtain ⟨c, hc0, hp⟩ := hpn d1
  have D1 := Lib.hid (decide_eq_true d1)
  clear hpz hpn d1 hbx hbw
  go_enter Try.func21, Try.ntmps21
  go_wp2_with fail
  refine (hp _).mono ?_
  rintro e w1 ⟨rfl, rfl⟩
  clear hp
  obtain ⟨hbx, hbw, hops⟩ := H0.out
  have HB := Lib.hid hbw
  clear hbx hbw hops
  by_cases dd : 0 ≤ bucket
  rotate_left
  · have dd' : decide (0 ≤ bucket) = false := decide_eq_false dd
    have D2 := Lib.hid dd'
    clear dd
    go_wp2_with fail
    go_ret
    exact ⟨by rw [HL.out, D1.out, D2.out]; rfl, HB.out⟩
  have fD2 : decide (0 ≤ bucket) = true := decide_eq_true dd
  have D2 := Lib.hid fD2
  clear dd
  by_cases dd : bucket < 64
  rotate_left
  · have dd' : decide (bucket < 64) = false := decide_eq_false dd
    have D3 := Lib.hid dd'
    clear dd
    go_wp2_with fail
    go_ret
    exact ⟨by rw [HL.out, D1.out, D2.out, D3.out]; rfl, HB.out⟩
  have fD3 : decide (bucket < 64) = true := decide_eq_true dd
  have D3 := Lib.hid fD3
  clear dd
  go_wp2_with fail
  refine (hmq _).mono ?_
  rintro e w1 ⟨rfl, hb1⟩
  clear hmq fD2 fD3
  obtain ⟨hbx, hbw, hops⟩ := H0.out
  have hbx1 := hbx.but (But.of_new hb1 (S := fun _ => False)) (fun e => e)
  have hbw1 := hbw.trans (hb1.mono hbw.size)
  have hops1 := (hops.below hbw).below hb1
  clear hbx hbw hops H0 HB
  have HB := Lib.hid hbw1
  have HX := Lib.hid (And.intro hbx1 hops1)
  cases m4
  · clear hwi hb1 hbx1 hbw1 hops1 HX
    go_wp2_with fail
    go_ret
    exact ⟨by rw [HL.out, D1.out, D2.out, D3.out]; rfl, HB.out⟩
  have c0 : w1.cell? ⟨w.heap.size, 0, none⟩ = some (.int .i64 tag) := (hbx1.cell 0).trans rfl
  have c10 : w1.cell? ⟨w.heap.size, 10, none⟩ = some sv := (hbx1.cell 10).trans rfl
  clear hb1 hbx1 hbw1 hops1
  go_wp2_with fail
  clear c0 c10
  refine (hwi _ HX.out.2).mono ?_
  rintro e w2 ⟨rfl, hb2⟩
  clear hwi
  have HB2 := Lib.hid (HB.out.trans (hb2.mono HB.out.size))
  cases m5
  · clear hb2 HX HB
    go_wp2_with fail
    go_ret
    exact ⟨by rw [HL.out, D1.out, D2.out, D3.out]; rfl, HB2.out⟩
  have hbx2 := HX.out.1.but (But.of_new hb2 (S := fun _ => False)) (fun e => e)
  have c0 : w2.cell? ⟨w.heap.size, 0, none⟩ = some (.int .i64 tag) := (hbx2.cell 0).trans rfl
  have c11 : w2.cell? ⟨w.heap.size, 11, none⟩ = some (.string after) := (hbx2.cell 11).trans rfl
  have c13 : w2.cell? ⟨w.heap.size, 13, none⟩ = some (.int .i64 count) := (hbx2.cell 13).trans rfl
  have c14 : w2.cell? ⟨w.heap.size, 14, none⟩ = some (.int .i64 rights) := (hbx2.cell 14).trans rfl
  clear hb2 HX HB hbx2
  by_cases dd : (after.size : Int) ≤ 64
  rotate_left
  · have dd' : decide ((after.size : Int) ≤ 64) = false := decide_eq_false dd
    have D6 := Lib.hid dd'
    clear dd
    go_wp2_with fail
    go_ret
    exact ⟨by rw [HL.out, D1.out, D2.out, D3.out, D6.out]; rfl, HB2.out⟩
  have fD6 : decide ((after.size : Int) ≤ 64) = true := decide_eq_true dd
  have D6 := Lib.hid fD6
  clear dd
  by_cases dd : 0 ≤ count
  rotate_left
  · have dd' : decide (0 ≤ count) = false := decide_eq_false dd
    have D7 := Lib.hid dd'
    clear dd
    go_wp2_with fail
    go_ret
    exact ⟨by rw [HL.out, D1.out, D2.out, D3.out, D6.out, D7.out]; rfl, HB2.out⟩
  have fD7 : decide (0 ≤ count) = true := decide_eq_true dd
  have D7 := Lib.hid fD7
  clear dd
  by_cases dd : count ≤ 50
  rotate_left
  · have dd' : decide (count ≤ 50) = false := decide_eq_false dd
    have D8 := Lib.hid dd'
    clear dd
    go_wp2_with fail
    go_ret
    exact ⟨by rw [HL.out, D1.out, D2.out, D3.out, D6.out, D7.out, D8.out]; rfl, HB2.out⟩
  have fD8 : decide (count ≤ 50) = true := decide_eq_true dd
  have D8 := Lib.hid fD8
  clear dd
  by_cases dt : tag = 12
  rotate_left
  · have dt' : (tag != 12) = true := bne_iff_ne.2 dt
    have D9 := Lib.hid (show decide (tag ≠ 12 ∨ 1 ≤ rights ∧ rights ≤ 7) = true from decide_eq_true (Or.inl dt))
    clear dt
    go_wp2_with fail
    go_ret
    exact ⟨by rw [HL.out, D1.out, D2.out, D3.out, D6.out, D7.out, D8.out, D9.out]; rfl, HB2.out⟩
  subst dt
  have HE := Lib.hid (show decide ((12 : Int) ≠ 12 ∨ 1 ≤ rights ∧ rights ≤ 7) = (decide (1 ≤ rights) && decide (rights ≤ 7)) by simp)
  by_cases dd : 1 ≤ rights
  rotate_left
  · have dd' : decide (1 ≤ rights) = false := decide_eq_false dd
    have D9 := Lib.hid dd'
    clear dd
    go_wp2_with fail
    go_ret
    exact ⟨by rw [HL.out, D1.out, D2.out, D3.out, D6.out, D7.out, D8.out, HE.out, D9.out]; rfl, HB2.out⟩
  have fD9 : decide (1 ≤ rights) = true := decide_eq_true dd
  have D9 := Lib.hid fD9
  clear dd
  by_cases dd : rights ≤ 7
  rotate_left
  · have dd' : decide (rights ≤ 7) = false := decide_eq_false dd
    have D10 := Lib.hid dd'
    clear dd
    go_wp2_with fail
    go_ret
    exact ⟨by rw [HL.out, D1.out, D2.out, D3.out, D6.out, D7.out, D8.out, HE.out, D9.out, D10.out]; rfl, HB2.out⟩
  have fD10 : decide (rights ≤ 7) = true := decide_eq_true dd
  have D10 := Lib.hid fD10
  clear dd
  go_wp2_with fail
  go_ret
  exact ⟨by rw [HL.out, D1.out, D2.out, D3.out, D6.out, D7.out, D8.out, HE.out, D9.out, D10.out]; rfl, HB2.out⟩
end Go.Proofs.Ytbdbbnpkekcefaa.Cmd
