/- What Decode answers. -/
import Derived.Test.YtbdbbnpkekcefaaCmdResp
import Derived.Test.YtbdbbnpkekcefaaCmdEnc
import Derived.Test.YtbdbbnpkekcefaaCmdParse
namespace Go.Proofs.Ytbdbbnpkekcefaa.Cmd
open Go.Proofs.Ytbdbbnpkekcefaa.Mem Go.Proofs.Ytbdbbnpkekcefaa.Pack
open Go.ChangeShapes Go.WideShapes Go.ChangeAt Go.RowKit
set_option linter.unusedVariables false
set_option linter.unusedSimpArgs false

def DecIs (zs : List Int) (w : World) (e : Ending) (w' : World) : Prop :=
  Below w.heap.size w w' ∧ ((∃ (r : Rs) (pv bv : Value), e = .returned (.tuple #[rsv r pv bv, .nilIface]) ∧ RsSo r ∧ ShowsFrom pcells 2 0 w' pv r.page ∧ ShowsFrom icells 1 0 w' bv r.buckets ∧ encOf r = zs) ∨
    e = .returned (.tuple #[.agg zresp, .iface 57 (.int .i64 2)]))
theorem put_bs (n k : Nat) : Bytes (put n k) := put_bytes n k
theorem encOf_bytes (r : Rs) : Bytes (encOf r) := by
  have ht : Bytes (told r) := by
    unfold told
    refine bytes_append (bytes_append (put_bytes _ _) (bytes_append (put_bytes _ _) (bytes_append (put_bytes _ _) (put_bytes _ _)))) (bytes_append (put_bytes _ _) (bytes_append (text_bytes _) (bytes_append (put_bytes _ _) (bytes_append ?_ (bytes_append (put_bytes _ _) (bytes_append (put_bytes _ _) (bytes_append (put_bytes _ _) (bytes_append (put_bytes _ _) (bytes_append (put_bytes _ _) (bytes_append (put_bytes _ _) ?_))))))))))
    · intro z hz
      obtain ⟨x, _, hx⟩ := List.mem_flatMap.1 hz
      exact bytes_append (text_bytes _) (text_bytes _) z hx
    · intro z hz
      obtain ⟨x, _, hx⟩ := List.mem_flatMap.1 hz
      exact put_bytes _ _ z hx
  unfold encOf
  refine bytes_append (put_bytes _ _) ?_
  split
  · exact ht
  · exact bytes_nil
theorem scells_one {r : Rs} {lo : Nat} {w : World} {pv bv : Value} (hp : ShowsFrom pcells 2 lo w pv r.page) (hb : ShowsFrom icells 1 lo w bv r.buckets) : (scells r pv bv).all (fun x => x.oneCell') = true := by
  obtain ⟨a, c, rfl, -⟩ := hp
  obtain ⟨b, d, rfl, -⟩ := hb
  simp [scells, Value.oneCell']
set_option maxRecDepth 100000 in
set_option maxHeartbeats 8000000 in
theorem decode_any (a : Option Addr) (cap : Nat) (zs : List Int) (w : World) (h : Row w a zs.length zs) (hn : a = none → cap = 0) (hl : zs.length ≤ 1073741824) :
    Calls Try.prog 18 #[.slice a zs.length cap] w fun e w' => DecIs zs w e w' := by
  have hA : Below w.heap.size w (w.alloc (.cells #[.int .i64 0, .int .i64 0, .int .u32 0, .int .u32 0, .int .u64 0, .int .u64 0, .string ⟨#[]⟩, .slice none 0 0, .bool false, .int .i64 0, .int .i64 0, .int .i64 0, .int .u64 0, .slice none 0 0] 49)) := (Below.refl _ _).alloc (Nat.le_refl _) _
  have HREAD := Lib.hid (resp_any a cap zs _ (h.below hA) hn hl)
  have HROW := Lib.hid (fun w' hb => (h.below (w' := w') hb))
  have HZ0 := Lib.hid (Blk.new w 49 #[.int .i64 0, .int .i64 0, .int .u32 0, .int .u32 0, .int .u64 0, .int .u64 0, .string ⟨#[]⟩, .slice none 0 0, .bool false, .int .i64 0, .int .i64 0, .int .i64 0, .int .u64 0, .slice none 0 0])
  have HB0 := Lib.hid ((But.refl (fun _ => False) w).alloc (.cells #[.int .i64 0, .int .i64 0, .int .u32 0, .int .u32 0, .int .u64 0, .int .u64 0, .string ⟨#[]⟩, .slice none 0 0, .bool false, .int .i64 0, .int .i64 0, .int .i64 0, .int .u64 0, .slice none 0 0] 49))
  have HS0 := Lib.hid (show (w.alloc (.cells #[.int .i64 0, .int .i64 0, .int .u32 0, .int .u32 0, .int .u64 0, .int .u64 0, .string ⟨#[]⟩, .slice none 0 0, .bool false, .int .i64 0, .int .i64 0, .int .i64 0, .int .u64 0, .slice none 0 0] 49)).heap.size = w.heap.size + 1 by simp)
  clear h hA
  go_enter Try.func18, Try.ntmps18
  go_wp2_with fail
  refine HREAD.out.mono ?_
  rintro e w1 ⟨r, pv, bv, rfl, hso, hsp, hsb, hb1⟩
  have h1 : But (fun _ => False) _ w1 := But.of_new hb1
  have hone := scells_one hsp hsb
  obtain ⟨cs, hcs⟩ : ∃ cs, cs = scells r pv bv := ⟨_, rfl⟩
  have hrv : rsv r pv bv = .agg cs := by rw [hcs]; rfl
  have hsz : cs.size = 14 := by rw [hcs]; rfl
  rw [← hcs] at hone
  have HNB := Lib.hid (Blk.new w1 49 #[.int .i64 0, .int .i64 0, .int .u32 0, .int .u32 0, .int .u64 0, .int .u64 0, .string ⟨#[]⟩, .slice none 0 0, .bool false, .int .i64 0, .int .i64 0, .int .i64 0, .int .u64 0, .slice none 0 0])
  have hbx : Blk ((w1.alloc (.cells #[.int .i64 0, .int .i64 0, .int .u32 0, .int .u32 0, .int .u64 0, .int .u64 0, .string ⟨#[]⟩, .slice none 0 0, .bool false, .int .i64 0, .int .i64 0, .int .i64 0, .int .u64 0, .slice none 0 0] 49)).setRow w1.heap.size cs) w1.heap.size 49 cs := HNB.out.row cs
  have hbX : But (fun _ => False) w1 ((w1.alloc (.cells #[.int .i64 0, .int .i64 0, .int .u32 0, .int .u32 0, .int .u64 0, .int .u64 0, .string ⟨#[]⟩, .slice none 0 0, .bool false, .int .i64 0, .int .i64 0, .int .i64 0, .int .u64 0, .slice none 0 0] 49)).setRow w1.heap.size cs) := but_two w1 w1.heap.size #[.int .i64 0, .int .i64 0, .int .u32 0, .int .u32 0, .int .u64 0, .int .u64 0, .string ⟨#[]⟩, .slice none 0 0, .bool false, .int .i64 0, .int .i64 0, .int .i64 0, .int .u64 0, .slice none 0 0] cs 49 rfl
  obtain ⟨WA, hWA⟩ : ∃ W, W = (w1.alloc (.cells #[.int .i64 0, .int .i64 0, .int .u32 0, .int .u32 0, .int .u64 0, .int .u64 0, .string ⟨#[]⟩, .slice none 0 0, .bool false, .int .i64 0, .int .i64 0, .int .i64 0, .int .u64 0, .slice none 0 0] 49)).setRow w1.heap.size cs := ⟨_, rfl⟩
  rw [← hWA] at hbx hbX
  have HWA := Lib.hid hWA
  have HBOX := Lib.hid hbx
  have HZA := Lib.hid ((HZ0.out.but h1 (fun e => e)).but hbX (fun e => e))
  have HWW := Lib.hid ((HB0.out.trans h1 (fun _ _ e => e)).trans hbX (fun _ _ e => e))
  have HSH := Lib.hid (And.intro (hsp.new hbX) (hsb.new hbX))
  have HSO := Lib.hid hso
  have HONE := Lib.hid hone
  have HSZ := Lib.hid (resp_sz.trans (show some 14 = some cs.size by rw [hsz]))
  have HSZ2 := Lib.hid hsz
  have HRV := Lib.hid hrv
  have HCS := Lib.hid hcs
  have hcode := fun w => isCode_any r.code w
  obtain ⟨cd, hcd⟩ : ∃ b, b = decide (0 ≤ r.code ∧ r.code ≤ 15) := ⟨_, rfl⟩
  rw [← hcd] at hcode
  have x0 : WA.cell? ⟨w1.heap.size, 0, none⟩ = some (.int .i64 r.code) := (hbx.cell 0).trans (by rw [hcs]; rfl)
  rw [hrv]
  have HZS := Lib.hid (resp_sz.trans (show some 14 = some (#[.int .i64 0, .int .i64 0, .int .u32 0, .int .u32 0, .int .u64 0, .int .u64 0, .string ⟨#[]⟩, .slice none 0 0, .bool false, .int .i64 0, .int .i64 0, .int .i64 0, .int .u64 0, .slice none 0 0] : Array Value).size by simp))
  have HZ1 := Lib.hid (show (#[.int .i64 0, .int .i64 0, .int .u32 0, .int .u32 0, .int .u64 0, .int .u64 0, .string ⟨#[]⟩, .slice none 0 0, .bool false, .int .i64 0, .int .i64 0, .int .i64 0, .int .u64 0, .slice none 0 0] : Array Value).all (fun x => x.oneCell') = true by simp [Value.oneCell'])
  clear h1 hone hcs hrv hsz hbx hbX hWA hsp hsb hb1 hso HREAD HZ0 HB0 hcd
  go_wp2_with (refine wpList_store_rowTo rfl 49 _ _ rfl rfl w1.heap.size cs rfl rfl 49 #[.int .i64 0, .int .i64 0, .int .u32 0, .int .u32 0, .int .u64 0, .int .u64 0, .string ⟨#[]⟩, .slice none 0 0, .bool false, .int .i64 0, .int .i64 0, .int .i64 0, .int .u64 0, .slice none 0 0] HNB.out HSZ.out HSZ2.out.symm HONE.out ?_; rw [← HWA.out])
  refine (hcode _).mono ?_
  rintro e w2 ⟨rfl, rfl⟩
  clear x0 hcode
  cases cd
  · have hbZ := but_setRow (fun k => k = w.heap.size) (But.refl _ WA) (.inl rfl) #[.int .i64 0, .int .i64 0, .int .u32 0, .int .u32 0, .int .u64 0, .int .u64 0, .string ⟨#[]⟩, .slice none 0 0, .bool false, .int .i64 0, .int .i64 0, .int .i64 0, .int .u64 0, .slice none 0 0]
    have HF := Lib.hid ((HWW.out.trans hbZ (fun j hj e => by omega)).new)
    clear hbZ
    go_wp2_with (refine wpList_store_rowTo rfl 49 _ _ rfl rfl w.heap.size #[.int .i64 0, .int .i64 0, .int .u32 0, .int .u32 0, .int .u64 0, .int .u64 0, .string ⟨#[]⟩, .slice none 0 0, .bool false, .int .i64 0, .int .i64 0, .int .i64 0, .int .u64 0, .slice none 0 0] rfl rfl 49 #[.int .i64 0, .int .i64 0, .int .u32 0, .int .u32 0, .int .u64 0, .int .u64 0, .string ⟨#[]⟩, .slice none 0 0, .bool false, .int .i64 0, .int .i64 0, .int .i64 0, .int .u64 0, .slice none 0 0] HZA.out HZS.out rfl HZ1.out ?_)
    refine bodyPost_ret (results_row_tmp rfl _ _ w.heap.size 49 #[.int .i64 0, .int .i64 0, .int .u32 0, .int .u32 0, .int .u64 0, .int .u64 0, .string ⟨#[]⟩, .slice none 0 0, .bool false, .int .i64 0, .int .i64 0, .int .i64 0, .int .u64 0, .slice none 0 0] (0, 0) _ rfl (setRow_heap _ _ _ _ _ _ HZA.out) Try.underlying49 rfl HZS.out) rfl ?_
    exact ⟨HF.out, .inr rfl⟩
  · have HENC := Lib.hid (enc_any r HSO.out pv bv _ WA HSH.out.1 HSH.out.2)
    unfold rsv scells at HENC
    have c0 : WA.cell? ⟨w1.heap.size, 0, none⟩ = some (.int .i64 r.code) := (HBOX.out.cell 0).trans (by rw [HCS.out]; rfl)
    have c1 : WA.cell? ⟨w1.heap.size, 1, none⟩ = some (.int .i64 r.tok.b) := (HBOX.out.cell 1).trans (by rw [HCS.out]; rfl)
    have c2 : WA.cell? ⟨w1.heap.size, 2, none⟩ = some (.int .u32 (r.tok.g : Int)) := (HBOX.out.cell 2).trans (by rw [HCS.out]; rfl)
    have c3 : WA.cell? ⟨w1.heap.size, 3, none⟩ = some (.int .u32 (r.tok.s : Int)) := (HBOX.out.cell 3).trans (by rw [HCS.out]; rfl)
    have c4 : WA.cell? ⟨w1.heap.size, 4, none⟩ = some (.int .u64 (r.tok.x : Int)) := (HBOX.out.cell 4).trans (by rw [HCS.out]; rfl)
    have c5 : WA.cell? ⟨w1.heap.size, 5, none⟩ = some (.int .u64 (r.ver : Int)) := (HBOX.out.cell 5).trans (by rw [HCS.out]; rfl)
    have c6 : WA.cell? ⟨w1.heap.size, 6, none⟩ = some (.string r.val) := (HBOX.out.cell 6).trans (by rw [HCS.out]; rfl)
    have c7 : WA.cell? ⟨w1.heap.size, 7, none⟩ = some (pv) := (HBOX.out.cell 7).trans (by rw [HCS.out]; rfl)
    have c8 : WA.cell? ⟨w1.heap.size, 8, none⟩ = some (.bool r.more) := (HBOX.out.cell 8).trans (by rw [HCS.out]; rfl)
    have c9 : WA.cell? ⟨w1.heap.size, 9, none⟩ = some (.int .i64 r.keys) := (HBOX.out.cell 9).trans (by rw [HCS.out]; rfl)
    have c10 : WA.cell? ⟨w1.heap.size, 10, none⟩ = some (.int .i64 r.bytes) := (HBOX.out.cell 10).trans (by rw [HCS.out]; rfl)
    have c11 : WA.cell? ⟨w1.heap.size, 11, none⟩ = some (.int .i64 r.charged) := (HBOX.out.cell 11).trans (by rw [HCS.out]; rfl)
    have c12 : WA.cell? ⟨w1.heap.size, 12, none⟩ = some (.int .u64 (r.seq : Int)) := (HBOX.out.cell 12).trans (by rw [HCS.out]; rfl)
    have c13 : WA.cell? ⟨w1.heap.size, 13, none⟩ = some (bv) := (HBOX.out.cell 13).trans (by rw [HCS.out]; rfl)
    go_wp2_with fail
    clear c0 c1 c2 c3 c4 c5 c6 c7 c8 c9 c10 c11 c12 c13
    refine HENC.out.mono ?_
    rintro e w3 ⟨v, rfl, hown, hb3⟩
    obtain ⟨a2, c2, rfl, hr2, -, -⟩ := own_shape hown (encOf_bytes r)
    have hbut3 : But (fun _ => False) _ w3 := But.of_new hb3
    have HB3 := Lib.hid (HBOX.out.but hbut3 (fun e => e))
    have HZ3 := Lib.hid (HZA.out.but hbut3 (fun e => e))
    have HW3 := Lib.hid (HWW.out.trans hbut3 (fun _ _ e => e))
    have HS3 := Lib.hid (And.intro (HSH.out.1.new hbut3) (HSH.out.2.new hbut3))
    have heq := equal_any a2 a (encOf r).length zs.length c2 cap (encOf r) zs w3 hr2 (HROW.out _ HW3.out.new)
    obtain ⟨b, hb⟩ : ∃ b, b = decide (encOf r = zs) := ⟨_, rfl⟩
    rw [← hb] at heq
    have HBE := Lib.hid hb
    clear hown hr2 hb3 hbut3 hb HBOX HZA HWW HSH HENC
    go_wp2_with fail
    refine heq.mono ?_
    rintro e w4 ⟨rfl, rfl⟩
    clear heq
    cases b
    · have hbZ := but_setRow (fun k => k = w.heap.size) (But.refl _ w3) (.inl rfl) #[.int .i64 0, .int .i64 0, .int .u32 0, .int .u32 0, .int .u64 0, .int .u64 0, .string ⟨#[]⟩, .slice none 0 0, .bool false, .int .i64 0, .int .i64 0, .int .i64 0, .int .u64 0, .slice none 0 0]
      have HF := Lib.hid ((HW3.out.trans hbZ (fun j hj e => by omega)).new)
      clear hbZ
      go_wp2_with (refine wpList_store_rowTo rfl 49 _ _ rfl rfl w.heap.size #[.int .i64 0, .int .i64 0, .int .u32 0, .int .u32 0, .int .u64 0, .int .u64 0, .string ⟨#[]⟩, .slice none 0 0, .bool false, .int .i64 0, .int .i64 0, .int .i64 0, .int .u64 0, .slice none 0 0] rfl rfl 49 #[.int .i64 0, .int .i64 0, .int .u32 0, .int .u32 0, .int .u64 0, .int .u64 0, .string ⟨#[]⟩, .slice none 0 0, .bool false, .int .i64 0, .int .i64 0, .int .i64 0, .int .u64 0, .slice none 0 0] HZ3.out HZS.out rfl HZ1.out ?_)
      refine bodyPost_ret (results_row_tmp rfl _ _ w.heap.size 49 #[.int .i64 0, .int .i64 0, .int .u32 0, .int .u32 0, .int .u64 0, .int .u64 0, .string ⟨#[]⟩, .slice none 0 0, .bool false, .int .i64 0, .int .i64 0, .int .i64 0, .int .u64 0, .slice none 0 0] (0, 0) _ rfl (setRow_heap _ _ _ _ _ _ HZ3.out) Try.underlying49 rfl HZS.out) rfl ?_
      exact ⟨HF.out, .inr rfl⟩
    · have hbZ := but_setRow (fun k => k = w.heap.size) (But.refl _ w3) (.inl rfl) cs
      have HF := Lib.hid ((HW3.out.trans hbZ (fun j hj e => by omega)).new)
      have HSS := Lib.hid (And.intro ((HS3.out.1.but hbZ (fun k h1 _ e => by have := HS0.out; omega)).mono (lo' := 0) (Nat.zero_le _)) ((HS3.out.2.but hbZ (fun k h1 _ e => by have := HS0.out; omega)).mono (lo' := 0) (Nat.zero_le _)))
      have HYES := Lib.hid (show encOf r = zs from of_decide_eq_true HBE.out.symm)
      clear hbZ
      go_wp2_with (first
        | (refine wpList_load_row rfl 49 _ rfl w1.heap.size rfl 49 _ (0, 0) _ HB3.out Try.underlying49 rfl HSZ.out ?_)
        | (refine wpList_store_rowTo rfl 49 _ _ rfl rfl w.heap.size cs rfl rfl 49 #[.int .i64 0, .int .i64 0, .int .u32 0, .int .u32 0, .int .u64 0, .int .u64 0, .string ⟨#[]⟩, .slice none 0 0, .bool false, .int .i64 0, .int .i64 0, .int .i64 0, .int .u64 0, .slice none 0 0] HZ3.out HSZ.out HSZ2.out.symm HONE.out ?_))
      refine bodyPost_ret (results_row_tmp rfl _ _ w.heap.size 49 cs (0, 0) _ rfl (setRow_heap _ _ _ _ _ _ HZ3.out) Try.underlying49 rfl HSZ.out) rfl ?_
      exact ⟨HF.out, .inl ⟨r, pv, bv, by rw [HRV.out]; rfl, HSO.out, HSS.out.1, HSS.out.2, HYES.out⟩⟩
end Go.Proofs.Ytbdbbnpkekcefaa.Cmd
