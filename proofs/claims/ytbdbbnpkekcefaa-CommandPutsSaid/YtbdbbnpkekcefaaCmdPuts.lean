/- The bytes of any request, if it has some, and of any response: the walk of the law CommandPuts. -/
import Derived.Test.YtbdbbnpkekcefaaCmdUp
import Derived.Test.YtbdbbnpkekcefaaCmdAs
import Derived.Test.YtbdbbnpkekcefaaCmdWritten
import Derived.Test.YtbdbbnpkekcefaaCmdAsResp
import Derived.Test.YtbdbbnpkekcefaaGCmdREnc
import Derived.Test.YtbdbbnpkekcefaaCmdRsOpen
import Derived.Test.YtbdbbnpkekcefaaLate
namespace Go.Proofs.Ytbdbbnpkekcefaa.Cmd
open Go.Proofs.Ytbdbbnpkekcefaa.Mem Go.Proofs.Ytbdbbnpkekcefaa.Pack Go.Proofs.Ytbdbbnpkekcefaa.Err
open Go.ChangeShapes Go.WideShapes Go.ChangeAt Go.RowKit
set_option linter.unusedVariables false
set_option linter.unusedSimpArgs false

/- What is to hold may be said more strongly on the way. -/
theorem goes_strong {P : Program} {ops : Array Oper} {Q : Exit → Act → World → Prop} {S S' : World → Prop} {late : Nat → Bool} (hS : ∀ u, S' u → S u) : ∀ {n : Nat} {li : Array Bool} {a : Act} {w : World}, Late.Goes P ops Q S' late n li a w → Late.Goes P ops Q S late n li a w
  | 0, _, _, _, h => h
  | _ + 1, _, _, _, h => ⟨h.1, fun j hj => wpOp_mono (fun _ _ k => ⟨fun hl => hS _ (k.1 hl), goes_strong hS k.2⟩) (h.2 j hj)⟩
theorem enc_bs (r : Rs) : Bytes (encOf r) := by
  have ht : Bytes (told r) := by
    unfold told
    refine bytes_append (bytes_append (put_bytes _ _) (bytes_append (put_bytes _ _) (bytes_append (put_bytes _ _) (put_bytes _ _)))) (bytes_append (put_bytes _ _) (bytes_append (text_bytes _) (bytes_append (put_bytes _ _) (bytes_append ?_ (bytes_append (put_bytes _ _) (bytes_append (put_bytes _ _) (bytes_append (put_bytes _ _) (bytes_append (put_bytes _ _) (bytes_append (put_bytes _ _) (bytes_append (put_bytes _ _) ?_))))))))))
    · intro z hz
      obtain ⟨x, _, hx⟩ := List.mem_flatMap.1 hz
      exact bytes_append (text_bytes _) (text_bytes _) z hx
    · intro z hz
      obtain ⟨x, _, hx⟩ := List.mem_flatMap.1 hz
      exact put_bytes _ _ z hx
  unfold encOf
  refine bytes_append (put_bytes _ _) ?_
  split
  · exact ht
  · exact bytes_nil
set_option maxRecDepth 100000 in
set_option maxHeartbeats 16000000 in
theorem puts_any (q : Rq) (hi : RqIs q) (sv : Value) (r : Rs) (hr : RsIn r) (pv bv : Value) (w00 : World) (hops : OpsAt w00 sv q.ops) (hl : q.ops.length ≤ 9223372036854775807) (hp : ShowsFrom pcells 2 0 w00 pv r.page) (hb : ShowsFrom icells 1 0 w00 bv r.buckets) :
    Calls Try.prog 4 #[rv q sv, rsv r pv bv] w00 fun e w' => e = .returned (.bool true) ∧ Below w00.heap.size w00 w' := by
  obtain ⟨cq, hcq⟩ : ∃ cs, cs = rcells q sv := ⟨_, rfl⟩
  have hrv : rv q sv = .agg cq := by rw [hcq]; rfl
  have hsz : cq.size = 16 := by rw [hcq]; rfl
  have hp0 := hp
  have hb0 := hb
  obtain ⟨pa, pc, hpv, hpx⟩ := hp0
  obtain ⟨ba, bc, hbv, -⟩ := hb0
  obtain ⟨cr, hcr⟩ : ∃ cs, cs = scells r pv bv := ⟨_, rfl⟩
  have hrr : rsv r pv bv = .agg cr := by rw [hcr]; rfl
  have hsr : cr.size = 14 := by rw [hcr]; rfl
  have g6 : cr[6]? = some (.string r.val) := by rw [hcr]; rfl
  have g7 : cr[7]? = some (.slice pa r.page.length pc) := by rw [hcr, ← hpv]; rfl
  have g13 : cr[13]? = some (.slice ba r.buckets.length bc) := by rw [hcr, ← hbv]; rfl
  have b0 : But (fun _ => False) w00 ((w00.alloc (.cells cq 32)).alloc (.cells cr 49)) := ((But.refl _ w00).alloc _).alloc _
  obtain ⟨hbq, hbr⟩ := Blk.two w00 cq cr 32 49
  obtain ⟨w, hw⟩ : ∃ W, W = (w00.alloc (.cells cq 32)).alloc (.cells cr 49) := ⟨_, rfl⟩
  rw [← hw] at b0 hbq hbr
  have HW0 := Lib.hid hw
  have H00 := Lib.hid b0.new
  have HQB := Lib.hid (fun V (hV : But (fun _ => False) w V) => hbq.but hV (fun e => e))
  have HRB := Lib.hid (fun V (hV : But (fun _ => False) w V) => hbr.but hV (fun e => e))
  have HOQ := Lib.hid (fun V (hV : But (fun _ => False) w V) => (hops.nw b0).nw hV)
  have HPG := Lib.hid (fun V (hV : But (fun _ => False) w V) => (hp.new b0).new hV)
  have HBU := Lib.hid (fun V (hV : But (fun _ => False) w V) => (hb.new b0).new hV)
  have HRSQ := Lib.hid (req_size.trans (show some 16 = some cq.size by rw [hsz]))
  have HRSR := Lib.hid (resp_size.trans (show some 14 = some cr.size by rw [hsr]))
  have HG := Lib.hid (And.intro g6 (And.intro g7 g13))
  have HPX := Lib.hid (fun V (hV : But (fun _ => False) w V) (h0 : 0 < r.page.length) => show ∃ b off, pa = some ⟨b, off, none⟩ ∧ ∀ i (h : i < r.page.length) j u, (pcells r.page[i])[j]? = some u → V.cell? ⟨b, off + i * 2 + j, none⟩ = some u by
    obtain ⟨b, off, e, -, hlt, hx⟩ := hpx h0
    have hV0 := b0.trans hV (fun _ _ e => e)
    exact ⟨b, off, e, fun i hi j u hu => (hV0.cell (p := ⟨b, off + i * 2 + j, none⟩) hlt (fun e => e)).trans (hx i hi j u hu)⟩)
  have KFEW := Lib.hid (fun V ho => few_any q sv V ho hl)
  have KPUT := Lib.hid (fun V ho => cPut_any q hi sv V ho)
  have KAS := Lib.hid (fun V ho h => as_any q sv V ho h)
  have KWR := Lib.hid (fun haf hsm sv V ho => written_any q hi haf hsm sv V ho)
  have KENC := Lib.hid (fun hso V hp hb => enc_any r hso pv bv 0 V hp hb)
  have KTOLD := Lib.hid (fun V hp hb h => told_any r pv bv V hp hb h hr.seq)
  have HI := Lib.hid hi
  have HR := Lib.hid hr
  have hpl := hr.pages
  have hbl := hr.buckets
  obtain ⟨N, hN⟩ : ∃ n, n = r.page.length := ⟨_, rfl⟩
  obtain ⟨M, hM⟩ : ∃ n, n = r.buckets.length := ⟨_, rfl⟩
  obtain ⟨Z, hZ⟩ : ∃ n, n = r.val.size := ⟨_, rfl⟩
  rw [← hN] at HG hpl
  rw [← hM] at HG hbl
  have HNM := Lib.hid (And.intro hN (And.intro hM hZ))
  have hZ1 : (r.val.size : Int) = (Z : Int) := by rw [hZ]
  have ke := code_eql
  have kn := code_neq
  rw [hrv] at KFEW KPUT KAS ⊢
  rw [hrr] at KENC KTOLD ⊢
  clear hcq hrv hsz hcr hrr hsr g6 g7 g13 b0 hbq hbr hw hops hp hb hpx hpv hbv hi hr hN hM hZ
  go_enter Try.func4, Try.ntmps4
  go_wp2_with fail
  try rw [← HW0.out]
  refine (up_any w).mono ?_
  rintro e w1 ⟨rfl, hb1⟩
  have HW1 := Lib.hid (show But (fun _ => False) w w1 from But.of_new hb1)
  have HQ1 := Lib.hid (show _ = _ from HQB.out w1 HW1.out)
  have HFW := Lib.hid (KFEW.out w1 (HOQ.out w1 HW1.out))
  clear hb1
  go_wp2_with (refine wpList_load_row rfl 32 _ rfl w00.heap.size rfl 32 _ (0, 0) _ HQ1.out Try.underlying32 rfl HRSQ.out ?_)
  refine HFW.out.mono ?_
  rintro e w2 ⟨rf, rfl, hrf, hb2⟩
  have HW2 := Lib.hid (HW1.out.trans (But.of_new hb2) (fun _ _ e => e))
  have HF := Lib.hid (H00.out.trans (HW2.out.new.mono H00.out.size))
  have HRF := Lib.hid hrf
  have c6 : w2.cell? ⟨w00.heap.size + 1, 6, none⟩ = some (.string r.val) := ((HRB.out w2 HW2.out).cell 6).trans HG.out.1
  have c7 : w2.cell? ⟨w00.heap.size + 1, 7, none⟩ = some (.slice pa N pc) := ((HRB.out w2 HW2.out).cell 7).trans HG.out.2.1
  have c13 : w2.cell? ⟨w00.heap.size + 1, 13, none⟩ = some (.slice ba M bc) := ((HRB.out w2 HW2.out).cell 13).trans HG.out.2.2
  clear hb2 hrf HFW HQ1 HW1
  cases rf
  · go_wp2_with fail
    go_ret
    exact ⟨rfl, HF.out⟩
  by_cases k1 : 300 < N
  · have d1 : decide ((300 : Int) < (N : Int)) = true := decide_eq_true (by omega)
    go_wp2_with fail
    go_ret
    exact ⟨rfl, HF.out⟩
  have d1 : decide ((300 : Int) < (N : Int)) = false := decide_eq_false (by omega)
  by_cases k2 : 300 < M
  · have d2 : decide ((300 : Int) < (M : Int)) = true := decide_eq_true (by omega)
    go_wp2_with fail
    go_ret
    exact ⟨rfl, HF.out⟩
  have d2 : decide ((300 : Int) < (M : Int)) = false := decide_eq_false (by omega)
  by_cases k3 : 2000 < Z
  · have d3 : decide ((2000 : Int) < (Z : Int)) = true := decide_eq_true (by omega)
    go_wp2_with fail
    go_ret
    exact ⟨rfl, HF.out⟩
  have d3 : decide ((2000 : Int) < (Z : Int)) = false := decide_eq_false (by omega)
  have HK := Lib.hid (And.intro k1 (And.intro k2 k3))
  clear HF k1 k2 k3
  go_wp2_with fail
  clear c6 c7 c13 d1 d2 d3
  go_loopw [6] (fun i wr => ∃ k : Nat, k ≤ N ∧ i = .int .i64 (k : Int) ∧ (∀ x ∈ r.page.take k, x.1.size ≤ 100 ∧ x.2.size ≤ 1500) ∧ But (fun _ => False) w wr) (fun i _ => N - (intOf i).toNat)
  case atStart => exact ⟨0, Nat.zero_le _, rfl, fun o ho => absurd ho List.not_mem_nil, HW2.out⟩
  case round =>
    obtain ⟨k, hk, rfl, hall, hbw⟩ := hrel
    have HWr := Lib.hid hbw
    have HALL := Lib.hid hall
    have HF := Lib.hid (H00.out.trans (hbw.new.mono H00.out.size))
    have c7 : wr.cell? ⟨w00.heap.size + 1, 7, none⟩ = some (.slice pa N pc) := ((HRB.out wr hbw).cell 7).trans HG.out.2.1
    clear hbw hall HW2
    by_cases hlt : k < N
    · have hlt' : k < r.page.length := by have := HNM.out.1; omega
      obtain ⟨b, off, rfl, hc⟩ := HPX.out wr HWr.out (Nat.lt_of_le_of_lt (Nat.zero_le _) hlt')
      obtain ⟨⟨x1, x2⟩, hxe⟩ : ∃ x, x = r.page[k] := ⟨_, rfl⟩
      have e0 : wr.cell? ⟨b, off + k * 2, none⟩ = some (.string x1) := hc k hlt' 0 _ (by rw [← hxe]; rfl)
      have e1 : wr.cell? ⟨b, off + k * 2 + 1, none⟩ = some (.string x2) := hc k hlt' 1 _ (by rw [← hxe]; rfl)
      have HXE := Lib.hid (show ∃ h : k < r.page.length, (x1, x2) = r.page[k] from ⟨hlt', hxe⟩)
      obtain ⟨n, hn⟩ : ∃ n, n = x1.size := ⟨_, rfl⟩
      obtain ⟨m, hm⟩ : ∃ m, m = x2.size := ⟨_, rfl⟩
      have HXS := Lib.hid (And.intro hn hm)
      have hn1 : (x1.size : Int) = (n : Int) := by rw [hn]
      have hm1 : (x2.size : Int) = (m : Int) := by rw [hm]
      clear hc hxe hn hm hlt'
      by_cases a1 : 100 < n
      · have d1 : decide ((100 : Int) < (n : Int)) = true := decide_eq_true (by omega)
        go_wp2_with fail
        go_ret
        exact ⟨rfl, HF.out⟩
      have d1 : decide ((100 : Int) < (n : Int)) = false := decide_eq_false (by omega)
      by_cases a2 : 1500 < m
      · have d2 : decide ((1500 : Int) < (m : Int)) = true := decide_eq_true (by omega)
        go_wp2_with fail
        go_ret
        exact ⟨rfl, HF.out⟩
      have d2 : decide ((1500 : Int) < (m : Int)) = false := decide_eq_false (by omega)
      have HY := Lib.hid (show x1.size ≤ 100 ∧ x2.size ≤ 1500 by have := HXS.out; omega)
      go_wp2_with fail
      go_roundw
      case rel =>
        refine ⟨k + 1, by omega, by go_num, fun x hx => ?_, HWr.out⟩
        obtain ⟨hlt', hxe⟩ := HXE.out
        rw [List.take_succ_eq_append_getElem hlt'] at hx
        rcases List.mem_append.1 hx with h | h
        · exact HALL.out x h
        · rw [List.mem_singleton.1 h, ← hxe]; exact HY.out
      case measure => simp [intOf]; omega
    · have hkl : k = N := by omega
      subst hkl
      have HSO := Lib.hid (show RsSo r by
        have h0 := HNM.out
        have h1 := HK.out
        have ha : ∀ x ∈ r.page, x.1.size ≤ 100 ∧ x.2.size ≤ 1500 := by have := HALL.out; rw [List.take_of_length_le (by omega)] at this; exact this
        exact ⟨HR.out.code, HR.out.tok, HR.out.ver, by omega, fun x hx => by have := ha x hx; omega, by omega, HR.out.seq, by omega⟩)
      have HSM := Lib.hid (show q.after.size ≤ 65535 ∧ Small q.ops ∧ q.ops.length ≤ 1000 by
        obtain ⟨h1, h2, h3⟩ := HRF.out (by first | rfl | trivial)
        exact ⟨by omega, ⟨HI.out.ops, fun o ho => by have := (h1 o ho).1; omega, fun o ho => by have := (h1 o ho).2; omega, by omega⟩, by omega⟩)
      have HPL := Lib.hid (show r.page.length ≤ 1000 by have h0 := HNM.out; have h1 := HK.out; omega)
      have HQ2 := Lib.hid (show _ = _ from HQB.out wr HWr.out)
      have HPW := Lib.hid (KPUT.out wr (HOQ.out wr HWr.out))
      clear hlt hk HALL HRF HK HF KFEW KPUT
      go_wp2_with (refine wpList_load_row rfl 32 _ rfl w00.heap.size rfl 32 _ (0, 0) _ HQ2.out Try.underlying32 rfl HRSQ.out ?_)
      refine HPW.out.mono ?_
      rintro e w3 ⟨hb3, hcase⟩
      have HW3 := Lib.hid (HWr.out.trans (But.of_new hb3) (fun _ _ e => e))
      have HQ3 := Lib.hid (show _ = _ from HQB.out w3 HW3.out)
      have HASW := Lib.hid (KAS.out w3 (HOQ.out w3 HW3.out) HSM.out.2.2)
      clear hb3 HPW HQ2 KAS HWr c7
      rcases hcase with ⟨hmay, vx, rfl, hox⟩ | ⟨hmay, rfl⟩
      · obtain ⟨ax, cx, rfl, hrx, -, -⟩ := own_shape hox (bytesOf_bytes q)
        have HMAY := Lib.hid (put_written q hmay)
        have HRX := Lib.hid hrx
        clear hox hmay hrx
        go_wp2_with (refine wpList_load_row rfl 32 _ rfl w00.heap.size rfl 32 _ (0, 0) _ HQ3.out Try.underlying32 rfl HRSQ.out ?_)
        refine HASW.out.mono ?_
        rintro e w4 ⟨sv4, rfl, ho4, hb4⟩
        have HWW := Lib.hid (KWR.out HSM.out.1 HSM.out.2.1 sv4 w4 ho4)
        have HW4 := Lib.hid (HW3.out.trans hb4 (fun _ _ e => e))
        have HRX4 := Lib.hid (HRX.out.but hb4 (fun _ _ _ e => e))
        clear ho4 hb4
        go_wp2_with fail
        refine HWW.out.mono ?_
        rintro e w5 ⟨hb5, ⟨-, vw, rfl, how⟩ | ⟨hno, -⟩⟩
        rotate_left
        · exact absurd HMAY.out.1 hno
        rw [HMAY.out.2] at how
        obtain ⟨aw, cw, rfl, hrw, -, -⟩ := own_shape how (bytesOf_bytes q)
        have HW5 := Lib.hid (HW4.out.trans hb5 (fun _ _ e => e))
        have ks1 := fun dst hd => run_string_row (P := Try.prog) (HRX4.out.but hb5 (fun _ _ _ e => e)) 22 5 dst Try.underlying22 Try.underlying5 hd cx
        have ks2 := fun dst hd => run_string_row (P := Try.prog) hrw 22 5 dst Try.underlying22 Try.underlying5 hd cw
        clear hb5 how hrw HWW HRX HRX4 HQ3 HASW
        go_wp2_with fail
        clear ks1 ks2
        refine Late.region_goes (fun V => But (fun _ => False) w5 V) (fun j => j == 11) (by kernel_rfl) ?_ (fun hH => ?_)
        · exact (But.refl _ _).drew
        refine Late.Goes.takeT (i := 0) (v := ?_) (by simp only [List.getElem?_toArray, List.getElem?_cons_succ, List.getElem?_cons_zero]; rfl) (by kernel_rfl) (by kernel_rfl) (by kernel_rfl) (by kernel_rfl) (by kernel_rfl) (by exact fun _ _ _ h => h) (Or.inl ⟨by rfl, ?_⟩) hH ?_
        rotate_left
        · (intro wy hSw; (try dsimp only at hSw); go_simp; try (with_reducible rfl))
        try simp only [Act.put, List.setIfInBounds_toArray, List.set_cons_zero, List.set_cons_succ]
        refine Late.Goes.takeT (i := 1) (v := ?_) (by simp only [List.getElem?_toArray, List.getElem?_cons_succ, List.getElem?_cons_zero]; rfl) (by kernel_rfl) (by kernel_rfl) (by kernel_rfl) (by kernel_rfl) (by kernel_rfl) (by exact fun _ _ _ h => h) (Or.inl ⟨by rfl, ?_⟩) hH ?_
        rotate_left
        · (intro wy hSw; (try dsimp only at hSw); go_simp; try (with_reducible rfl))
        try simp only [Act.put, List.setIfInBounds_toArray, List.set_cons_zero, List.set_cons_succ]
        refine Late.Goes.takeT (i := 2) (v := _) (by simp only [List.getElem?_toArray, List.getElem?_cons_succ, List.getElem?_cons_zero]; rfl) (by kernel_rfl) (by kernel_rfl) (by kernel_rfl) (by kernel_rfl) (by kernel_rfl) (by exact fun _ _ _ h => h) (yields_row (by rfl) 49 _ rfl (w00.heap.size + 1) rfl cr _ (by rfl) Try.underlying49 HRSR.out (fun V hV => HRB.out V (HW5.out.trans hV (fun _ _ e => e)))) hH ?_
        try simp only [Act.put, List.setIfInBounds_toArray, List.set_cons_zero, List.set_cons_succ]
        refine Late.Goes.takeT (i := 5) (v := _) (by simp only [List.getElem?_toArray, List.getElem?_cons_succ, List.getElem?_cons_zero]; rfl) (by kernel_rfl) (by kernel_rfl) (by kernel_rfl) (by kernel_rfl) (by kernel_rfl) (by exact fun _ _ _ h => h) (yields_row (by rfl) 49 _ rfl (w00.heap.size + 1) rfl cr _ (by rfl) Try.underlying49 HRSR.out (fun V hV => HRB.out V (HW5.out.trans hV (fun _ _ e => e)))) hH ?_
        try simp only [Act.put, List.setIfInBounds_toArray, List.set_cons_zero, List.set_cons_succ]
        have HVd := Lib.hid hH
        have HE := Lib.hid (KENC.out HSO.out _ (HPG.out _ (HW5.out.trans HVd.out (fun _ _ e => e))) (HBU.out _ (HW5.out.trans HVd.out (fun _ _ e => e))))
        refine Late.Goes.one (i := 3) (by kernel_rfl) (by simp only [List.getElem?_toArray, List.getElem?_cons_succ, List.getElem?_cons_zero]; rfl) (fun K hK => ?_)
        clear hH
        go_simp
        go_at_call 15
        refine HE.out.mono ?_
        rintro e w6 ⟨v6, rfl, hown, hb6⟩
        obtain ⟨a6, c6, rfl, hr6, -, -⟩ := own_shape hown (enc_bs r)
        have HV6 := Lib.hid (HVd.out.trans (But.of_new hb6) (fun _ _ e => e))
        have HR6 := Lib.hid (fun V (hV : But (fun _ => False) w6 V) => run_string_row (P := Try.prog) (hr6.but hV (fun _ _ _ e => e)) 22 5 9 Try.underlying22 Try.underlying5 Try.underlying9 c6)
        clear hown hr6 hb6 HE
        refine hK.out _ _ ?_ (fun hH => ?_)
        · exact fun _ => HV6.out
        clear hK K
        have hH := hH rfl
        try simp only [Act.put, List.setIfInBounds_toArray, List.set_cons_zero, List.set_cons_succ]
        refine goes_strong (S' := fun V => But (fun _ => False) w6 V) (fun V hV => HV6.out.trans hV (fun _ _ e => e)) ?_
        clear hH
        have hH : But (fun _ => False) w6 w6 := But.refl _ _
        refine Late.Goes.takeT (i := 4) (v := ?_) (by simp only [List.getElem?_toArray, List.getElem?_cons_succ, List.getElem?_cons_zero]; rfl) (by kernel_rfl) (by kernel_rfl) (by kernel_rfl) (by kernel_rfl) (by kernel_rfl) (by exact fun _ _ _ h => h) (Or.inl ⟨by rfl, ?_⟩) hH ?_
        rotate_left
        · (intro wy hSw; (try dsimp only at hSw); have kx := HR6.out wy hSw; go_simp; try (with_reducible rfl))
        try simp only [Act.put, List.setIfInBounds_toArray, List.set_cons_zero, List.set_cons_succ]
        have HT := Lib.hid (KTOLD.out w6 (HPG.out _ (HW5.out.trans HV6.out (fun _ _ e => e))) (HBU.out _ (HW5.out.trans HV6.out (fun _ _ e => e))) HPL.out)
        refine Late.Goes.one (i := 6) (by kernel_rfl) (by simp only [List.getElem?_toArray, List.getElem?_cons_succ, List.getElem?_cons_zero]; rfl) (fun K hK => ?_)
        clear hH
        go_simp
        go_at_call 17
        refine HT.out.mono ?_
        rintro e w7 ⟨pv7, sv7, bv7, rfl, hp7, hs7, hb7, hbu7⟩
        have HV7 := Lib.hid hbu7
        have HE7 := Lib.hid (renc_any r HSO.out pv7 sv7 bv7 0 w7 hp7 hs7 hb7)
        clear hp7 hs7 hb7 hbu7 HT
        refine hK.out _ _ ?_ (fun hH => ?_)
        · exact fun _ => HV7.out
        clear hK K
        have hH := hH rfl
        try simp only [Act.put, List.setIfInBounds_toArray, List.set_cons_zero, List.set_cons_succ]
        refine Late.Goes.one (i := 7) (by kernel_rfl) (by simp only [List.getElem?_toArray, List.getElem?_cons_succ, List.getElem?_cons_zero]; rfl) (fun K hK => ?_)
        clear hH
        go_simp
        go_at_call 16
        refine HE7.out.mono ?_
        rintro e w8 ⟨v8, rfl, hown, hb8⟩
        obtain ⟨a8, c8, rfl, hr8, -, -⟩ := own_shape hown (enc_bs r)
        have HV8 := Lib.hid (HV7.out.trans (But.of_new hb8) (fun _ _ e => e))
        have kx := run_string_row (P := Try.prog) hr8 22 5 9 Try.underlying22 Try.underlying5 Try.underlying9 c8
        clear hown hr8 hb8 HE7
        refine hK.out _ _ ?_ (fun hH => ?_)
        · exact fun _ => HV8.out
        clear hK K
        have hH := hH rfl
        try simp only [Act.put, List.setIfInBounds_toArray, List.set_cons_zero, List.set_cons_succ]
        refine Late.Goes.one (i := 8) (by kernel_rfl) (by simp only [List.getElem?_toArray, List.getElem?_cons_succ, List.getElem?_cons_zero]; rfl) (fun K hK => ?_)
        clear hH
        go_simp
        refine hK.out _ _ ?_ (fun hH => ?_)
        · exact fun _ => HV8.out
        clear hK K
        have hH := hH rfl
        try simp only [Act.put, List.setIfInBounds_toArray, List.set_cons_zero, List.set_cons_succ]
        refine Late.Goes.takeT (i := 9) (v := ?_) (by simp only [List.getElem?_toArray, List.getElem?_cons_succ, List.getElem?_cons_zero]; rfl) (by kernel_rfl) (by kernel_rfl) (by kernel_rfl) (by kernel_rfl) (by kernel_rfl) (by exact fun _ _ _ h => h) (Or.inl ⟨by rfl, ?_⟩) hH ?_
        rotate_left
        · (intro wy hSw; (try dsimp only at hSw); go_simp; try (with_reducible rfl))
        try simp only [Act.put, List.setIfInBounds_toArray, List.set_cons_zero, List.set_cons_succ]
        refine Late.Goes.takeT (i := 10) (v := ?_) (by simp only [List.getElem?_toArray, List.getElem?_cons_succ, List.getElem?_cons_zero]; rfl) (by kernel_rfl) (by kernel_rfl) (by kernel_rfl) (by kernel_rfl) (by kernel_rfl) (by exact fun _ _ _ h => h) (Or.inl ⟨by rfl, ?_⟩) hH ?_
        rotate_left
        · (intro wy hSw; (try dsimp only at hSw); go_simp; try (with_reducible rfl))
        try simp only [Act.put, List.setIfInBounds_toArray, List.set_cons_zero, List.set_cons_succ]
        refine Late.Goes.one (i := 11) (by kernel_rfl) (by simp only [List.getElem?_toArray, List.getElem?_cons_succ, List.getElem?_cons_zero]; rfl) (fun K hK => ?_)
        clear hH
        go_simp
        refine hK.out _ _ ?_ (fun _ => ?_)
        · exact fun h => by cases h
        clear hK K
        try simp only [Act.put, List.setIfInBounds_toArray, List.set_cons_zero, List.set_cons_succ]
        refine Late.Goes.done (by kernel_rfl) ?_ _
        have HF := Lib.hid ((HW5.out.trans (HV6.out.trans HV8.out (fun _ _ e => e)) (fun _ _ e => e)).new)
        go_wp2_with fail
        go_ret
        exact ⟨rfl, H00.out.trans (HF.out.mono H00.out.size)⟩
      · have HNO := Lib.hid (fun h => hmay (written_put q h))
        clear hmay
        go_wp2_with (refine wpList_load_row rfl 32 _ rfl w00.heap.size rfl 32 _ (0, 0) _ HQ3.out Try.underlying32 rfl HRSQ.out ?_)
        refine HASW.out.mono ?_
        rintro e w4 ⟨sv4, rfl, ho4, hb4⟩
        have HWW := Lib.hid (KWR.out HSM.out.1 HSM.out.2.1 sv4 w4 ho4)
        have HW4 := Lib.hid (HW3.out.trans hb4 (fun _ _ e => e))
        clear ho4 hb4
        go_wp2_with fail
        refine HWW.out.mono ?_
        rintro e w5 ⟨hb5, ⟨hyes, -⟩ | ⟨-, aw, nw, cw, rfl⟩⟩
        · exact absurd hyes HNO.out
        have HW5 := Lib.hid (HW4.out.trans hb5 (fun _ _ e => e))
        clear hb5 HWW HQ3 HASW
        go_wp2_with fail
        refine Late.region_goes (fun V => But (fun _ => False) w5 V) (fun j => j == 11) (by kernel_rfl) ?_ (fun hH => ?_)
        · exact (But.refl _ _).drew
        refine Late.Goes.takeT (i := 0) (v := ?_) (by simp only [List.getElem?_toArray, List.getElem?_cons_succ, List.getElem?_cons_zero]; rfl) (by kernel_rfl) (by kernel_rfl) (by kernel_rfl) (by kernel_rfl) (by kernel_rfl) (by exact fun _ _ _ h => h) (Or.inl ⟨by rfl, ?_⟩) hH ?_
        rotate_left
        · (intro wy hSw; (try dsimp only at hSw); go_simp; try (with_reducible rfl))
        try simp only [Act.put, List.setIfInBounds_toArray, List.set_cons_zero, List.set_cons_succ]
        refine Late.Goes.takeT (i := 1) (v := ?_) (by simp only [List.getElem?_toArray, List.getElem?_cons_succ, List.getElem?_cons_zero]; rfl) (by kernel_rfl) (by kernel_rfl) (by kernel_rfl) (by kernel_rfl) (by kernel_rfl) (by exact fun _ _ _ h => h) (Or.inl ⟨by rfl, ?_⟩) hH ?_
        rotate_left
        · (intro wy hSw; (try dsimp only at hSw); go_simp; try (with_reducible rfl))
        try simp only [Act.put, List.setIfInBounds_toArray, List.set_cons_zero, List.set_cons_succ]
        refine Late.Goes.takeT (i := 2) (v := _) (by simp only [List.getElem?_toArray, List.getElem?_cons_succ, List.getElem?_cons_zero]; rfl) (by kernel_rfl) (by kernel_rfl) (by kernel_rfl) (by kernel_rfl) (by kernel_rfl) (by exact fun _ _ _ h => h) (yields_row (by rfl) 49 _ rfl (w00.heap.size + 1) rfl cr _ (by rfl) Try.underlying49 HRSR.out (fun V hV => HRB.out V (HW5.out.trans hV (fun _ _ e => e)))) hH ?_
        try simp only [Act.put, List.setIfInBounds_toArray, List.set_cons_zero, List.set_cons_succ]
        refine Late.Goes.takeT (i := 5) (v := _) (by simp only [List.getElem?_toArray, List.getElem?_cons_succ, List.getElem?_cons_zero]; rfl) (by kernel_rfl) (by kernel_rfl) (by kernel_rfl) (by kernel_rfl) (by kernel_rfl) (by exact fun _ _ _ h => h) (yields_row (by rfl) 49 _ rfl (w00.heap.size + 1) rfl cr _ (by rfl) Try.underlying49 HRSR.out (fun V hV => HRB.out V (HW5.out.trans hV (fun _ _ e => e)))) hH ?_
        try simp only [Act.put, List.setIfInBounds_toArray, List.set_cons_zero, List.set_cons_succ]
        have HVd := Lib.hid hH
        have HE := Lib.hid (KENC.out HSO.out _ (HPG.out _ (HW5.out.trans HVd.out (fun _ _ e => e))) (HBU.out _ (HW5.out.trans HVd.out (fun _ _ e => e))))
        refine Late.Goes.one (i := 3) (by kernel_rfl) (by simp only [List.getElem?_toArray, List.getElem?_cons_succ, List.getElem?_cons_zero]; rfl) (fun K hK => ?_)
        clear hH
        go_simp
        go_at_call 15
        refine HE.out.mono ?_
        rintro e w6 ⟨v6, rfl, hown, hb6⟩
        obtain ⟨a6, c6, rfl, hr6, -, -⟩ := own_shape hown (enc_bs r)
        have HV6 := Lib.hid (HVd.out.trans (But.of_new hb6) (fun _ _ e => e))
        have HR6 := Lib.hid (fun V (hV : But (fun _ => False) w6 V) => run_string_row (P := Try.prog) (hr6.but hV (fun _ _ _ e => e)) 22 5 9 Try.underlying22 Try.underlying5 Try.underlying9 c6)
        clear hown hr6 hb6 HE
        refine hK.out _ _ ?_ (fun hH => ?_)
        · exact fun _ => HV6.out
        clear hK K
        have hH := hH rfl
        try simp only [Act.put, List.setIfInBounds_toArray, List.set_cons_zero, List.set_cons_succ]
        refine goes_strong (S' := fun V => But (fun _ => False) w6 V) (fun V hV => HV6.out.trans hV (fun _ _ e => e)) ?_
        clear hH
        have hH : But (fun _ => False) w6 w6 := But.refl _ _
        refine Late.Goes.takeT (i := 4) (v := ?_) (by simp only [List.getElem?_toArray, List.getElem?_cons_succ, List.getElem?_cons_zero]; rfl) (by kernel_rfl) (by kernel_rfl) (by kernel_rfl) (by kernel_rfl) (by kernel_rfl) (by exact fun _ _ _ h => h) (Or.inl ⟨by rfl, ?_⟩) hH ?_
        rotate_left
        · (intro wy hSw; (try dsimp only at hSw); have kx := HR6.out wy hSw; go_simp; try (with_reducible rfl))
        try simp only [Act.put, List.setIfInBounds_toArray, List.set_cons_zero, List.set_cons_succ]
        have HT := Lib.hid (KTOLD.out w6 (HPG.out _ (HW5.out.trans HV6.out (fun _ _ e => e))) (HBU.out _ (HW5.out.trans HV6.out (fun _ _ e => e))) HPL.out)
        refine Late.Goes.one (i := 6) (by kernel_rfl) (by simp only [List.getElem?_toArray, List.getElem?_cons_succ, List.getElem?_cons_zero]; rfl) (fun K hK => ?_)
        clear hH
        go_simp
        go_at_call 17
        refine HT.out.mono ?_
        rintro e w7 ⟨pv7, sv7, bv7, rfl, hp7, hs7, hb7, hbu7⟩
        have HV7 := Lib.hid hbu7
        have HE7 := Lib.hid (renc_any r HSO.out pv7 sv7 bv7 0 w7 hp7 hs7 hb7)
        clear hp7 hs7 hb7 hbu7 HT
        refine hK.out _ _ ?_ (fun hH => ?_)
        · exact fun _ => HV7.out
        clear hK K
        have hH := hH rfl
        try simp only [Act.put, List.setIfInBounds_toArray, List.set_cons_zero, List.set_cons_succ]
        refine Late.Goes.one (i := 7) (by kernel_rfl) (by simp only [List.getElem?_toArray, List.getElem?_cons_succ, List.getElem?_cons_zero]; rfl) (fun K hK => ?_)
        clear hH
        go_simp
        go_at_call 16
        refine HE7.out.mono ?_
        rintro e w8 ⟨v8, rfl, hown, hb8⟩
        obtain ⟨a8, c8, rfl, hr8, -, -⟩ := own_shape hown (enc_bs r)
        have HV8 := Lib.hid (HV7.out.trans (But.of_new hb8) (fun _ _ e => e))
        have kx := run_string_row (P := Try.prog) hr8 22 5 9 Try.underlying22 Try.underlying5 Try.underlying9 c8
        clear hown hr8 hb8 HE7
        refine hK.out _ _ ?_ (fun hH => ?_)
        · exact fun _ => HV8.out
        clear hK K
        have hH := hH rfl
        try simp only [Act.put, List.setIfInBounds_toArray, List.set_cons_zero, List.set_cons_succ]
        refine Late.Goes.one (i := 8) (by kernel_rfl) (by simp only [List.getElem?_toArray, List.getElem?_cons_succ, List.getElem?_cons_zero]; rfl) (fun K hK => ?_)
        clear hH
        go_simp
        refine hK.out _ _ ?_ (fun hH => ?_)
        · exact fun _ => HV8.out
        clear hK K
        have hH := hH rfl
        try simp only [Act.put, List.setIfInBounds_toArray, List.set_cons_zero, List.set_cons_succ]
        refine Late.Goes.takeT (i := 9) (v := ?_) (by simp only [List.getElem?_toArray, List.getElem?_cons_succ, List.getElem?_cons_zero]; rfl) (by kernel_rfl) (by kernel_rfl) (by kernel_rfl) (by kernel_rfl) (by kernel_rfl) (by exact fun _ _ _ h => h) (Or.inl ⟨by rfl, ?_⟩) hH ?_
        rotate_left
        · (intro wy hSw; (try dsimp only at hSw); go_simp; try (with_reducible rfl))
        try simp only [Act.put, List.setIfInBounds_toArray, List.set_cons_zero, List.set_cons_succ]
        refine Late.Goes.takeT (i := 10) (v := ?_) (by simp only [List.getElem?_toArray, List.getElem?_cons_succ, List.getElem?_cons_zero]; rfl) (by kernel_rfl) (by kernel_rfl) (by kernel_rfl) (by kernel_rfl) (by kernel_rfl) (by exact fun _ _ _ h => h) (Or.inl ⟨by rfl, ?_⟩) hH ?_
        rotate_left
        · (intro wy hSw; (try dsimp only at hSw); go_simp; try (with_reducible rfl))
        try simp only [Act.put, List.setIfInBounds_toArray, List.set_cons_zero, List.set_cons_succ]
        refine Late.Goes.one (i := 11) (by kernel_rfl) (by simp only [List.getElem?_toArray, List.getElem?_cons_succ, List.getElem?_cons_zero]; rfl) (fun K hK => ?_)
        clear hH
        go_simp
        refine hK.out _ _ ?_ (fun _ => ?_)
        · exact fun h => by cases h
        clear hK K
        try simp only [Act.put, List.setIfInBounds_toArray, List.set_cons_zero, List.set_cons_succ]
        refine Late.Goes.done (by kernel_rfl) ?_ _
        have HF := Lib.hid ((HW5.out.trans (HV6.out.trans HV8.out (fun _ _ e => e)) (fun _ _ e => e)).new)
        go_wp2_with fail
        go_ret
        exact ⟨rfl, H00.out.trans (HF.out.mono H00.out.size)⟩
end Go.Proofs.Ytbdbbnpkekcefaa.Cmd
