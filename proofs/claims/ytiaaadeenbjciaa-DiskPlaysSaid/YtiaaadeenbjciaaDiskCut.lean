/- Contract of disk's Cut. MADE BY gen-more.py -/
import Derived.Test.YtiaaadeenbjciaaDiskCreate
namespace Go.Proofs.Ytiaaadeenbjciaa.Disk
open Go.Proofs.Ytiaaadeenbjciaa.Mem
open Go.ChangeShapes Go.WideShapes Go.ChangeAt Go.RowKit
set_option linter.unusedVariables false
def cut (S : St) (n : Nm) (k : Int) : Int × St :=
  if S.down then (15, S) else match look n S.files with
    | none => (5, S)
    | some f => if k < 0 ∨ (f.bytes.length : Int) < k then (1, S) else effect S fun T => { T with files := upd n (fun f => ⟨f.bytes.take k.toNat, min f.synced k.toNat⟩) T.files }
section
variable {w : World} {p mb : Nat} {S : St} {cr : Option Addr} {es : List (Nm × Ent)} {D : DataW Nat} {F : Nat → Prop}
theorem cutE_at {fb k s0 : Nat} {v : Value} {bytes : List Int} (hE : EntAt w ⟨fb, v, bytes, s0⟩) (hk : k ≤ bytes.length) (m : Nat) :
    EntAt ((w.setCell ⟨fb, 0, none⟩ (cutV k v)).setCell ⟨fb, 1, none⟩ (.int .i64 (m : Int))) ⟨fb, cutV k v, bytes.take k, m⟩ := by
  have hb : But (fun i => i = fb) w ((w.setCell ⟨fb, 0, none⟩ (cutV k v)).setCell ⟨fb, 1, none⟩ (.int .i64 (m : Int))) := (but_set _ _ _ _).trans' (but_set _ _ _ _)
  refine ⟨(hE.1.set_ 0 _).set_ 1 _, ?_⟩
  have := own_cut (ownsRow_but hE.2 hb (fun i hi e => own_blk_ne hE.2 hE.1 (by decide) (e ▸ hi))) hk
  rw [List.length_take, Nat.min_eq_left hk]
  exact this
set_option maxRecDepth 20000 in
set_option maxRecDepth 100000 in
set_option maxHeartbeats 1000000 in
theorem cut_arg (hA : At w p S mb cr es D) (hd : S.down = false) (s : ByteArray) (hs : s.size ≤ maxLen) {e : Ent} (hl : look s.data.toList es = some e) (k : Int) (hk : k < 0 ∨ (e.bytes.length : Int) < k) :
    Calls Try.prog 12 #[.pointer (some ⟨p, 0, none⟩), .string s, .int .i64 k] w fun x w' => x = .returned (errV 1) ∧ w = w' := by
  have hf := Lib.hid (find_some hA hd s hs hl)
  have hE := hA.ents _ (look_mem hl)
  obtain ⟨a, cap, hv, _⟩ := own_shape hE.2 (hA.ent (look_mem hl)).2
  have k0 : w.cell? ⟨e.fb, 0, none⟩ = some (.slice a e.bytes.length cap) := by rw [← hv]; exact hE.1.cell 0
  obtain ⟨L, hL⟩ : ∃ L : Int, L = (e.bytes.length : Int) := ⟨_, rfl⟩
  rw [← hL] at hk
  clear hA hl hd hE hv
  by_cases t1 : k < 0
  · have t1' : decide (k < 0) = true := by simpa using t1
    clear hk hL
    go_enter Try.func12, Try.ntmps12
    go_wp2_with fail
    refine hf.out.mono ?_
    rintro x w' ⟨rfl, rfl⟩
    go_wp2
    go_ret
    exact ⟨rfl, rfl⟩
  · have t1' : decide (k < 0) = false := by simpa using t1
    have t2 : decide ((e.bytes.length : Int) < k) = true := by rw [← hL]; simp; omega
    clear hk t1 hL
    go_enter Try.func12, Try.ntmps12
    go_wp2_with fail
    refine hf.out.mono ?_
    rintro x w' ⟨rfl, rfl⟩
    go_wp2
    go_ret
    exact ⟨rfl, rfl⟩
set_option maxRecDepth 20000 in
set_option maxRecDepth 100000 in
set_option maxHeartbeats 1000000 in
theorem cut_crash (hA : At w p S mb cr es D) (hd : S.down = false) (s : ByteArray) (hs : s.size ≤ maxLen) {e : Ent} (hl : look s.data.toList es = some e) (k : Nat) (hk : k ≤ e.bytes.length) (hu : used S ≤ 1000000000) {kp : Int} (hn : now S = some kp) :
    Calls Try.prog 12 #[.pointer (some ⟨p, 0, none⟩), .string s, .int .i64 (k : Int)] w fun x w' => x = .returned (errV 15) ∧ At w' p (crash kp S) mb cr (mapv (truncE kp) es) D ∧ But (foot p mb cr es) w w' := by
  have hf := Lib.hid (find_some hA hd s hs hl)
  have he := Lib.hid (effect_no hA hd hn hu)
  have hE := hA.ents _ (look_mem hl)
  obtain ⟨a, cap, hv, _⟩ := own_shape hE.2 (hA.ent (look_mem hl)).2
  have k0 : w.cell? ⟨e.fb, 0, none⟩ = some (.slice a e.bytes.length cap) := by rw [← hv]; exact hE.1.cell 0
  have t1 : decide ((k : Int) < 0) = false := by simp
  have t2 : decide (e.bytes.length < k) = false := by simpa using hk
  clear hA hl hd hE hv hn hu hk
  go_enter Try.func12, Try.ntmps12
  go_wp2_with fail
  refine hf.out.mono ?_
  rintro x w' ⟨rfl, rfl⟩
  go_wp2_with fail
  refine he.out.mono ?_
  rintro x w1 ⟨rfl, hA, hb⟩
  have HA := Lib.hid hA
  have HB := Lib.hid hb
  clear hA hb
  go_wp2
  go_ret
  exact ⟨rfl, HA.out, HB.out⟩
set_option maxRecDepth 20000 in
set_option maxRecDepth 100000 in
set_option maxHeartbeats 2000000 in
theorem cut_yes (hA : At w p S mb cr es D) (hF : ∀ k, foot p mb cr es k → F k) (hlt : ∀ k, F k → k < w.heap.size) (hd : S.down = false) (s : ByteArray) (hs : s.size ≤ maxLen) {e : Ent} (hl : look s.data.toList es = some e) (k : Nat) (hk : k ≤ e.bytes.length) (hu : e.bytes.length ≤ 1000000000) (hn : now S = none) :
    Calls Try.prog 12 #[.pointer (some ⟨p, 0, none⟩), .string s, .int .i64 (k : Int)] w fun x w' => x = .returned (errV 0) ∧ Has w' p { stepS S with files := upd s.data.toList (fun _ => (⟨e.bytes.take k, min e.synced k⟩ : File)) S.files } (grow F w w') ∧ But F w w' := by
  have hf := Lib.hid (find_some hA hd s hs hl)
  have he := Lib.hid (effect_yes hA hd hn)
  have hE := hA.ents _ (look_mem hl)
  have hE0 := hA.ent (look_mem hl)
  have HL := Lib.hid hl
  have HF := Lib.hid hF
  have HLT := Lib.hid hlt
  have hfoot : ∀ i, (i = p ∨ ∃ a, cr = some a ∧ a.block = i) → F i := fun i e => hF i (e.elim .inl (fun h => .inr (.inr (.inl h))))
  have hFT := Lib.hid hfoot
  have hfb : F e.fb := hF _ (.inr (.inr (.inr ⟨_, look_mem hl, .inl rfl⟩)))
  obtain ⟨a, cap, hv, _, _, hsh⟩ := own_shape hE.2 hE0.2
  simp only at hsh
  obtain ⟨S2, hS2⟩ : ∃ S2 : St, S2 = { stepS S with files := upd s.data.toList (fun _ => (⟨e.bytes.take k, min e.synced k⟩ : File)) S.files } := ⟨_, rfl⟩
  rw [← hS2]
  have k0 : w.cell? ⟨e.fb, 0, none⟩ = some (.slice a e.bytes.length cap) := by rw [← hv]; exact hE.1.cell 0
  have HV := Lib.hid hv
  have t1 : decide ((k : Int) < 0) = false := by simp
  have t2 : decide (e.bytes.length < k) = false := by simpa using hk
  have hfin : ∀ w1 (M : Int), At w1 p (stepS S) mb cr es D → But (fun k => k = p ∨ ∃ a, cr = some a ∧ a.block = k) w w1 → M = ((min e.synced k : Nat) : Int) → Has ((w1.setCell ⟨e.fb, 0, none⟩ (.slice a k cap)).setCell ⟨e.fb, 1, none⟩ (.int .i64 M)) p S2 (grow F w ((w1.setCell ⟨e.fb, 0, none⟩ (.slice a k cap)).setCell ⟨e.fb, 1, none⟩ (.int .i64 M))) ∧ But F w ((w1.setCell ⟨e.fb, 0, none⟩ (.slice a k cap)).setCell ⟨e.fb, 1, none⟩ (.int .i64 M)) := by
    intro w1 M hA1 hb1 hm
    subst hm
    rw [hS2]
    have hE1 := hA1.ents _ (look_mem HL.out)
    have hcv : (Value.slice a k cap) = cutV k e.v := by rw [HV.out]; rfl
    rw [hcv]
    have hb2 : But (fun i => i = e.fb) w1 ((w1.setCell ⟨e.fb, 0, none⟩ (cutV k e.v)).setCell ⟨e.fb, 1, none⟩ (.int .i64 ((min e.synced k : Nat) : Int))) := (but_set _ _ _ _).trans' (but_set _ _ _ _)
    have hE2 := cutE_at (fb := e.fb) (v := e.v) (bytes := e.bytes) (s0 := e.synced) hE1 hk (min e.synced k)
    have hv3 : ∀ i, (cutV k e.v).ownBlock = some i → e.v.ownBlock = some i ∨ w1.heap.size ≤ i := fun i hi => .inl ((cutV_own _ _).symm.trans hi)
    have hA3 := hA1.upd_ (e' := ⟨e.fb, cutV k e.v, e.bytes.take k, min e.synced k⟩) HL.out hb2 (fun i _ h => .inl h) hE2 rfl hv3 (by show min e.synced k ≤ (e.bytes.take k).length; rw [List.length_take]; omega) (bytes_take hE0.2 k)
    have hb4 : But F w ((w1.setCell ⟨e.fb, 0, none⟩ (cutV k e.v)).setCell ⟨e.fb, 1, none⟩ (.int .i64 ((min e.synced k : Nat) : Int))) := (hb1.mono (T := F) (fun i _ h => hFT.out i h)).trans hb2 (fun i _ h => h ▸ hfb)
    refine ⟨hA3.hasGrow hb4 HLT.out (fun i hi => ?_), hb4⟩
    rcases foot_upd (w := w1) (e' := ⟨e.fb, cutV k e.v, e.bytes.take k, min e.synced k⟩) HL.out rfl hv3 i hi with h | h
    · exact .inl (HF.out i h)
    · exact .inr (Nat.le_trans hb1.size h)
  have HX := Lib.hid hfin
  have HSY : Hid (e.synced ≤ e.bytes.length) := Lib.hid hE0.1
  have hkc : k ≤ cap := by
    rcases hsh with ⟨_, h2, h3⟩ | ⟨_, _, _, _, h4, _⟩ <;> omega
  have hcm : cap ≤ 9223372036854775807 := by
    rcases hsh with ⟨_, h2, h3⟩ | ⟨_, _, _, _, _, h4⟩
    · omega
    · simpa [maxLen] using h4
  have u1 : (k : Int) ≤ (cap : Int) := by omega
  have u2 : (cap : Int) ≤ 9223372036854775807 := by omega
  obtain ⟨A0, hA0⟩ : ∃ A0, A0 = a := ⟨_, rfl⟩
  clear hA hl hd hE hv hn hu hF hlt hfoot hfin hE0 hA0 hcm hkc hS2
  go_enter Try.func12, Try.ntmps12
  go_wp2_with fail
  refine hf.out.mono ?_
  rintro x w' ⟨rfl, rfl⟩
  go_wp2_with fail
  refine he.out.mono ?_
  rintro x w1 ⟨rfl, hA1, hb1⟩
  have hE1 := hA1.ents _ (look_mem HL.out)
  have j0 : w1.cell? ⟨e.fb, 0, none⟩ = some (.slice a e.bytes.length cap) := by rw [← HV.out]; exact hE1.1.cell 0
  have j1 : w1.cell? ⟨e.fb, 1, none⟩ = some (.int .i64 e.synced) := hE1.1.cell 1
  have g0 := hE1.1.frozen 0
  have g1 := hE1.1.frozen 1
  have HA1 := Lib.hid hA1
  have HB1 := Lib.hid hb1
  clear hA1 hb1 hE1 k0
  rcases hsh with ⟨rfl, hc0, hl0⟩ | ⟨g, rfl, _, _, hlc, _⟩
  · have hk0 : k = 0 := by omega
    have HL0 := Lib.hid hl0
    subst hk0
    subst hc0
    clear hk
    rw [hl0] at j0
    clear hl0
    have q' : e.synced = 0 := by have := HSY.out; have := HL0.out; omega
    rw [q'] at j1
    clear q'
    go_wp2
    go_ret
    exact ⟨rfl, HX.out w1 0 HA1.out HB1.out (by simp)⟩
  · by_cases q : k < e.synced
    · have q' : decide (k < e.synced) = true := by simpa using q
      have HQ := Lib.hid q
      clear q hk hlc
      go_wp2
      go_ret
      exact ⟨rfl, HX.out w1 k HA1.out HB1.out (by have := HQ.out; omega)⟩
    · have q' : decide (k < e.synced) = false := by simpa using q
      have HQ := Lib.hid q
      clear q hk hlc
      go_wp2
      go_ret
      exact ⟨rfl, HX.out w1 e.synced HA1.out HB1.out (by have := HQ.out; omega)⟩
theorem cut_any (h : Has w p S F) (hu : used S ≤ 1000000000) (s : ByteArray) (hs : s.size ≤ maxLen) (k : Int) :
    Calls Try.prog 12 #[.pointer (some ⟨p, 0, none⟩), .string s, .int .i64 k] w fun e w' => e = .returned (errV (cut S s.data.toList k).1) ∧ Has w' p (cut S s.data.toList k).2 (grow F w w') ∧ But F w w' := by
  have h0 := Lib.hid (grow_refl h)
  obtain ⟨mb, cr, es, D, hA, hF, hlt⟩ := h
  rcases hd : S.down with _ | _
  · rcases hl : look s.data.toList es with _ | e
    · have e1 : cut S s.data.toList k = (5, S) := by
        unfold cut
        rw [hd, hA.look, hl]; rfl
      rw [e1]
      have hf := Lib.hid (find_none hA hd s hs hl)
      clear hA e1 hF hlt hd hu hl
      go_enter Try.func12, Try.ntmps12
      go_wp2_with fail
      refine hf.out.mono ?_
      rintro x w' ⟨rfl, rfl⟩
      go_wp2
      go_ret
      exact ⟨rfl, h0.out, But.refl _ _⟩
    · have hlf : look s.data.toList S.files = some e.file := by rw [hA.look, hl]; rfl
      have hle : e.bytes.length ≤ 1000000000 := by
        have := total_le_of (f := fun e : Ent => e.bytes.length) (look_mem hl)
        rw [used_eq hA] at this
        exact Nat.le_trans this hu
      by_cases hb : k < 0 ∨ (e.bytes.length : Int) < k
      · have e1 : cut S s.data.toList k = (1, S) := by
          unfold cut
          rw [hd, hlf, if_neg (by simp)]
          exact if_pos hb
        rw [e1]
        refine (cut_arg hA hd s hs hl k hb).mono ?_
        rintro x w' ⟨rfl, rfl⟩
        exact ⟨rfl, h0.out, But.refl _ _⟩
      · have e0 : cut S s.data.toList k = effect S fun T => { T with files := upd s.data.toList (fun f => ⟨f.bytes.take k.toNat, min f.synced k.toNat⟩) T.files } := by
          unfold cut
          rw [hd, hlf, if_neg (by simp)]
          exact if_neg hb
        rw [e0]
        obtain ⟨j, rfl⟩ := Int.eq_ofNat_of_zero_le (show 0 ≤ k by omega)
        rw [Int.toNat_natCast]
        rcases hn : now S with _ | kp
        · rw [effect_done hn, step_files, upd_const (a := e.file) hA.good.apart hlf]
          exact cut_yes hA hF hlt hd s hs hl j (by omega) hle hn
        · rw [effect_crash hn]
          refine (cut_crash hA hd s hs hl j (by omega) hu hn).mono ?_
          rintro x w' ⟨rfl, hA2, hb⟩
          exact ⟨rfl, has_crash hF hlt hA2 hb⟩
  · have e1 : cut S s.data.toList k = (15, S) := by
      unfold cut
      rw [hd]; rfl
    rw [e1]
    have hf := Lib.hid (find_down hA hd s)
    clear hA e1 hF hlt hd hu
    go_enter Try.func12, Try.ntmps12
    go_wp2_with fail
    refine hf.out.mono ?_
    rintro x w' ⟨rfl, rfl⟩
    go_wp2
    go_ret
    exact ⟨rfl, h0.out, But.refl _ _⟩
end
end Go.Proofs.Ytiaaadeenbjciaa.Disk
