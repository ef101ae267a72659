/- Contracts of disk's Create, Sync and Len. -/
import Derived.Test.YtiaaadeenbjciaaDiskUpd
import Derived.LaidEql
namespace Go.Proofs.Ytiaaadeenbjciaa.Disk
open Go.Proofs.Ytiaaadeenbjciaa.Mem
open Go.ChangeShapes Go.WideShapes Go.ChangeAt Go.RowKit
set_option linter.unusedVariables false
section
variable {w : World} {p : Nat} {S : St} {F : Nat → Prop}
theorem grow_refl (h : Has w p S F) : Has w p S (grow F w w) := by
  obtain ⟨mb, cr, es, D, h1, h2, h3⟩ := h
  exact ⟨mb, cr, es, D, h1, fun k hk => .inl (h2 k hk), fun k hk => hk.elim (h3 k) (fun h => h.2)⟩
theorem step_down (S : St) : (stepS S).down = S.down := rfl
theorem step_files (S : St) : (stepS S).files = S.files := rfl
set_option maxRecDepth 100000 in
set_option maxHeartbeats 1000000 in
theorem sync_any (h : Has w p S F) (hu : used S ≤ 1000000000) (s : ByteArray) (hs : s.size ≤ maxLen) :
    Calls Try.prog 11 #[.pointer (some ⟨p, 0, none⟩), .string s] w fun e w' => e = .returned (errV (sync S s.data.toList).1) ∧ Has w' p (sync S s.data.toList).2 (grow F w w') ∧ But F w w' := by
  have h0 := Lib.hid (grow_refl h)
  obtain ⟨mb, cr, es, D, hA, hF, hlt⟩ := h
  rcases hd : S.down with _ | _
  · rcases hl : look s.data.toList es with _ | e
    · have e1 : sync S s.data.toList = (5, S) := by
        unfold sync
        rw [hd, hA.look, hl]; rfl
      rw [e1]
      have hf := Lib.hid (find_none hA hd s hs hl)
      clear hA e1 hF hlt hl hd hu
      go_enter Try.func11, Try.ntmps11
      go_wp2_with fail
      refine hf.out.mono ?_
      rintro e w' ⟨rfl, rfl⟩
      go_wp2
      go_ret
      exact ⟨rfl, h0.out, But.refl _ _⟩
    · have hE0 := hA.ent (look_mem hl)
      rcases hn : now S with _ | kp
      · have e1 : sync S s.data.toList = (0, { stepS S with files := upd s.data.toList (fun _ => (⟨e.bytes, e.bytes.length⟩ : File)) S.files }) := by
          unfold sync
          rw [hd, hA.look, hl, effect_done hn, step_files, upd_const (a := e.file) hA.good.apart (by rw [hA.look, hl]; rfl)]; rfl
        rw [e1]
        have hf := Lib.hid (find_some hA hd s hs hl)
        have he := Lib.hid (effect_yes hA hd hn)
        have HL := Lib.hid hl
        have HF := Lib.hid hF
        have HLT := Lib.hid hlt
        have hfoot : ∀ i, (i = p ∨ ∃ a, cr = some a ∧ a.block = i) → F i := fun i e => hF i (e.elim .inl (fun h => .inr (.inr (.inl h))))
        have hfb : F e.fb := hF _ (.inr (.inr (.inr ⟨_, look_mem hl, .inl rfl⟩)))
        have hFT := Lib.hid hfoot
        clear hA e1 hF hlt hl hd hu hn hfoot
        go_enter Try.func11, Try.ntmps11
        go_wp2_with fail
        refine hf.out.mono ?_
        rintro x w' ⟨rfl, rfl⟩
        go_wp2_with fail
        refine he.out.mono ?_
        rintro x w1 ⟨rfl, hA, hb⟩
        have hE := hA.ents _ (look_mem HL.out)
        obtain ⟨a, cap, hv, _⟩ := own_shape hE.2 hE0.2
        have k0 : w1.cell? ⟨e.fb, 0, none⟩ = some (.slice a e.bytes.length cap) := by rw [← hv]; exact hE.1.cell 0
        have k1 : w1.cell? ⟨e.fb, 1, none⟩ = some (.int .i64 e.synced) := hE.1.cell 1
        have g1 := hE.1.frozen 1
        have hfin : Has (w1.setCell ⟨e.fb, 1, none⟩ (.int .i64 (e.bytes.length : Int))) p { stepS S with files := upd s.data.toList (fun _ => (⟨e.bytes, e.bytes.length⟩ : File)) S.files } (grow F w (w1.setCell ⟨e.fb, 1, none⟩ (.int .i64 (e.bytes.length : Int)))) ∧ But F w (w1.setCell ⟨e.fb, 1, none⟩ (.int .i64 (e.bytes.length : Int))) := by
          have hb2 : But F w (w1.setCell ⟨e.fb, 1, none⟩ (.int .i64 (e.bytes.length : Int))) := (hb.mono (T := F) (fun i _ h => hFT.out i h)).trans (but_set w1 e.fb 1 _) (fun i _ h => h ▸ hfb)
          have hE2 : EntAt (w1.setCell ⟨e.fb, 1, none⟩ (.int .i64 (e.bytes.length : Int))) ⟨e.fb, e.v, e.bytes, e.bytes.length⟩ :=
            ⟨hE.1.set_ 1 _, ownsRow_but hE.2 (but_set w1 e.fb 1 _) (fun k hk h => own_blk_ne hE.2 hE.1 (by decide) (h ▸ hk))⟩
          have hA2 := hA.upd_ (e' := ⟨e.fb, e.v, e.bytes, e.bytes.length⟩) HL.out (but_set w1 e.fb 1 (.int .i64 (e.bytes.length : Int))) (fun k _ h => .inl h) hE2 rfl (fun k h => .inl h) (Nat.le_refl _) hE0.2
          refine ⟨hA2.hasGrow hb2 HLT.out (fun k hk => ?_), hb2⟩
          rcases foot_upd (w := w1) (e' := ⟨e.fb, e.v, e.bytes, e.bytes.length⟩) HL.out rfl (fun k h => .inl h) k hk with h | h
          · exact .inl (HF.out k h)
          · exact .inr (Nat.le_trans hb.size h)
        have HX := Lib.hid hfin
        clear hfin hA hb hE hv hE0
        go_wp2
        go_ret
        exact ⟨rfl, HX.out⟩
      · have e1 : sync S s.data.toList = (15, crash kp S) := by
          unfold sync
          rw [hd, hA.look, hl, effect_crash hn]; rfl
        rw [e1]
        have hf := Lib.hid (find_some hA hd s hs hl)
        have he := Lib.hid (effect_no hA hd hn hu)
        have HF := Lib.hid hF
        have HLT := Lib.hid hlt
        clear hA e1 hF hlt hl hd hu hn
        go_enter Try.func11, Try.ntmps11
        go_wp2_with fail
        refine hf.out.mono ?_
        rintro x w' ⟨rfl, rfl⟩
        go_wp2_with fail
        refine he.out.mono ?_
        rintro x w1 ⟨rfl, hA, hb⟩
        have HX := Lib.hid (has_crash HF.out HLT.out hA hb)
        clear hA hb
        go_wp2
        go_ret
        exact ⟨rfl, HX.out⟩
  · have e1 : sync S s.data.toList = (15, S) := by
      unfold sync
      rw [hd]; rfl
    rw [e1]
    have hf := Lib.hid (find_down hA hd s)
    clear hA e1 hF hlt hd hu
    go_enter Try.func11, Try.ntmps11
    go_wp2_with fail
    refine hf.out.mono ?_
    rintro e w' ⟨rfl, rfl⟩
    go_wp2
    go_ret
    exact ⟨rfl, h0.out, But.refl _ _⟩
/- What Len tells. -/
def lenOf (S : St) (n : Nm) : Int × Int :=
  if S.down then (0, 15) else match look n S.files with | none => (0, 5) | some f => ((f.bytes.length : Int), 0)
set_option maxRecDepth 100000 in
set_option maxHeartbeats 1000000 in
theorem len_any (h : Has w p S F) (s : ByteArray) (hs : s.size ≤ maxLen) :
    Calls Try.prog 40 #[.pointer (some ⟨p, 0, none⟩), .string s] w fun e w' => e = .returned (.tuple #[.int .i64 (lenOf S s.data.toList).1, errV (lenOf S s.data.toList).2]) ∧ w = w' := by
  obtain ⟨mb, cr, es, D, hA, hF, hlt⟩ := h
  rcases hd : S.down with _ | _
  · rcases hl : look s.data.toList es with _ | e
    · have e1 : lenOf S s.data.toList = (0, 5) := by
        unfold lenOf
        rw [hd, hA.look, hl]; rfl
      rw [e1]
      have hf := Lib.hid (find_none hA hd s hs hl)
      clear hA e1 hF hlt hl hd
      go_enter Try.func40, Try.ntmps40
      go_wp2_with fail
      refine hf.out.mono ?_
      rintro x w' ⟨rfl, rfl⟩
      go_wp2
      go_ret2
      exact ⟨rfl, rfl⟩
    · have e1 : lenOf S s.data.toList = ((e.bytes.length : Int), 0) := by
        unfold lenOf
        rw [hd, hA.look, hl]; rfl
      rw [e1]
      have hf := Lib.hid (find_some hA hd s hs hl)
      have hE := hA.ents _ (look_mem hl)
      obtain ⟨a, cap, hv, _⟩ := own_shape hE.2 (hA.ent (look_mem hl)).2
      have k0 : w.cell? ⟨e.fb, 0, none⟩ = some (.slice a e.bytes.length cap) := by rw [← hv]; exact hE.1.cell 0
      clear hA e1 hF hlt hl hd hE hv
      go_enter Try.func40, Try.ntmps40
      go_wp2_with fail
      refine hf.out.mono ?_
      rintro x w' ⟨rfl, rfl⟩
      go_wp2
      go_ret2
      exact ⟨rfl, rfl⟩
  · have e1 : lenOf S s.data.toList = (0, 15) := by
      unfold lenOf
      rw [hd]; rfl
    rw [e1]
    have hf := Lib.hid (find_down hA hd s)
    clear hA e1 hF hlt hd
    go_enter Try.func40, Try.ntmps40
    go_wp2_with fail
    refine hf.out.mono ?_
    rintro x w' ⟨rfl, rfl⟩
    go_wp2
    go_ret2
    exact ⟨rfl, rfl⟩
end
end Go.Proofs.Ytiaaadeenbjciaa.Disk
