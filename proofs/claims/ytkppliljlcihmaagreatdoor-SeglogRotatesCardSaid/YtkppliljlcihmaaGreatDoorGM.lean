/- In one text: Contract of disk's Cut. MADE BY gen-more.py Contracts of disk's Delete and Rename. Contracts of disk's Delete and Rename. MADE BY gen-more.py -/
import Derived.Test.YtkppliljlcihmaaGreatDoorGL
namespace Go.Proofs.YtkppliljlcihmaaGreatDoor.Disk
open Go.Proofs.YtkppliljlcihmaaGreatDoor.Mem
open Go.ChangeShapes Go.WideShapes Go.ChangeAt Go.RowKit
set_option linter.unusedVariables false
section
variable {w : World} {p mb : Nat} {S : St} {cr : Option Addr} {es : List (Nm × Ent)} {D : DataW Nat} {F : Nat → Prop}
theorem cutE_at {fb k s0 : Nat} {v : Value} {bytes : List Int} (hE : EntAt w ⟨fb, v, bytes, s0⟩) (hk : k ≤ bytes.length) (m : Nat) :
    EntAt ((w.setCell ⟨fb, 0, none⟩ (cutV k v)).setCell ⟨fb, 1, none⟩ (.int .i64 (m : Int))) ⟨fb, cutV k v, bytes.take k, m⟩ := by
  have hb : But (fun i => i = fb) w ((w.setCell ⟨fb, 0, none⟩ (cutV k v)).setCell ⟨fb, 1, none⟩ (.int .i64 (m : Int))) := (but_set _ _ _ _).trans' (but_set _ _ _ _)
  refine ⟨(hE.1.set_ 0 _).set_ 1 _, ?_⟩
  have := own_cut (ownsRow_but hE.2 hb (fun i hi e => own_blk_ne hE.2 hE.1 (by decide) (e ▸ hi))) hk
  rw [List.length_take, Nat.min_eq_left hk]
  exact this
set_option maxRecDepth 20000 in
set_option maxRecDepth 100000 in
set_option maxHeartbeats 1000000 in
theorem cut_arg (hA : At w p S mb cr es D) (hd : S.down = false) (s : ByteArray) (hs : s.size ≤ maxLen) {e : Ent} (hl : look s.data.toList es = some e) (k : Int) (hk : k < 0 ∨ (e.bytes.length : Int) < k) :
    Calls Tryz.prog 90 #[.pointer (some ⟨p, 0, none⟩), .string s, .int .i64 k] w fun x w' => x = .returned (errV 1) ∧ w = w' := by
  have hf := Lib.hid (find_some hA hd s hs hl)
  have hE := hA.ents _ (look_mem hl)
  obtain ⟨a, cap, hv, _⟩ := own_shape hE.2 (hA.ent (look_mem hl)).2
  have k0 : w.cell? ⟨e.fb, 0, none⟩ = some (.slice a e.bytes.length cap) := by rw [← hv]; exact hE.1.cell 0
  obtain ⟨L, hL⟩ : ∃ L : Int, L = (e.bytes.length : Int) := ⟨_, rfl⟩
  rw [← hL] at hk
  clear hA hl hd hE hv
  by_cases t1 : k < 0
  · have t1' : decide (k < 0) = true := by simpa using t1
    clear hk hL
    go_enter Tryz.func90, Tryz.ntmps90
    go_wp2_with fail
    refine hf.out.mono ?_
    rintro x w' ⟨rfl, rfl⟩
    go_wp2
    go_ret
    exact ⟨rfl, rfl⟩
  · have t1' : decide (k < 0) = false := by simpa using t1
    have t2 : decide ((e.bytes.length : Int) < k) = true := by rw [← hL]; simp; omega
    clear hk t1 hL
    go_enter Tryz.func90, Tryz.ntmps90
    go_wp2_with fail
    refine hf.out.mono ?_
    rintro x w' ⟨rfl, rfl⟩
    go_wp2
    go_ret
    exact ⟨rfl, rfl⟩
set_option maxRecDepth 20000 in
set_option maxRecDepth 100000 in
set_option maxHeartbeats 1000000 in
theorem cut_crash (hA : At w p S mb cr es D) (hd : S.down = false) (s : ByteArray) (hs : s.size ≤ maxLen) {e : Ent} (hl : look s.data.toList es = some e) (k : Nat) (hk : k ≤ e.bytes.length) (hu : used S ≤ 1000000000) {kp : Int} (hn : now S = some kp) :
    Calls Tryz.prog 90 #[.pointer (some ⟨p, 0, none⟩), .string s, .int .i64 (k : Int)] w fun x w' => x = .returned (errV 15) ∧ At w' p (crash kp S) mb cr (mapv (truncE kp) es) D ∧ But (foot p mb cr es) w w' := by
  have hf := Lib.hid (find_some hA hd s hs hl)
  have he := Lib.hid (effect_no hA hd hn hu)
  have hE := hA.ents _ (look_mem hl)
  obtain ⟨a, cap, hv, _⟩ := own_shape hE.2 (hA.ent (look_mem hl)).2
  have k0 : w.cell? ⟨e.fb, 0, none⟩ = some (.slice a e.bytes.length cap) := by rw [← hv]; exact hE.1.cell 0
  have t1 : decide ((k : Int) < 0) = false := by simp
  have t2 : decide (e.bytes.length < k) = false := by simpa using hk
  clear hA hl hd hE hv hn hu hk
  go_enter Tryz.func90, Tryz.ntmps90
  go_wp2_with fail
  refine hf.out.mono ?_
  rintro x w' ⟨rfl, rfl⟩
  go_wp2_with fail
  refine he.out.mono ?_
  rintro x w1 ⟨rfl, hA, hb⟩
  have HA := Lib.hid hA
  have HB := Lib.hid hb
  clear hA hb
  go_wp2
  go_ret
  exact ⟨rfl, HA.out, HB.out⟩
set_option maxRecDepth 20000 in
set_option maxRecDepth 100000 in
set_option maxHeartbeats 2000000 in
theorem cut_yes (hA : At w p S mb cr es D) (hF : ∀ k, foot p mb cr es k → F k) (hlt : ∀ k, F k → k < w.heap.size) (hd : S.down = false) (s : ByteArray) (hs : s.size ≤ maxLen) {e : Ent} (hl : look s.data.toList es = some e) (k : Nat) (hk : k ≤ e.bytes.length) (hu : e.bytes.length ≤ 1000000000) (hn : now S = none) :
    Calls Tryz.prog 90 #[.pointer (some ⟨p, 0, none⟩), .string s, .int .i64 (k : Int)] w fun x w' => x = .returned (errV 0) ∧ Has w' p { stepS S with files := upd s.data.toList (fun _ => (⟨e.bytes.take k, min e.synced k⟩ : File)) S.files } (grow F w w') ∧ But F w w' := by
  have hf := Lib.hid (find_some hA hd s hs hl)
  have he := Lib.hid (effect_yes hA hd hn)
  have hE := hA.ents _ (look_mem hl)
  have hE0 := hA.ent (look_mem hl)
  have HL := Lib.hid hl
  have HF := Lib.hid hF
  have HLT := Lib.hid hlt
  have hfoot : ∀ i, (i = p ∨ ∃ a, cr = some a ∧ a.block = i) → F i := fun i e => hF i (e.elim .inl (fun h => .inr (.inr (.inl h))))
  have hFT := Lib.hid hfoot
  have hfb : F e.fb := hF _ (.inr (.inr (.inr ⟨_, look_mem hl, .inl rfl⟩)))
  obtain ⟨a, cap, hv, _, _, hsh⟩ := own_shape hE.2 hE0.2
  simp only at hsh
  obtain ⟨S2, hS2⟩ : ∃ S2 : St, S2 = { stepS S with files := upd s.data.toList (fun _ => (⟨e.bytes.take k, min e.synced k⟩ : File)) S.files } := ⟨_, rfl⟩
  rw [← hS2]
  have k0 : w.cell? ⟨e.fb, 0, none⟩ = some (.slice a e.bytes.length cap) := by rw [← hv]; exact hE.1.cell 0
  have HV := Lib.hid hv
  have t1 : decide ((k : Int) < 0) = false := by simp
  have t2 : decide (e.bytes.length < k) = false := by simpa using hk
  have hfin : ∀ w1 (M : Int), At w1 p (stepS S) mb cr es D → But (fun k => k = p ∨ ∃ a, cr = some a ∧ a.block = k) w w1 → M = ((min e.synced k : Nat) : Int) → Has ((w1.setCell ⟨e.fb, 0, none⟩ (.slice a k cap)).setCell ⟨e.fb, 1, none⟩ (.int .i64 M)) p S2 (grow F w ((w1.setCell ⟨e.fb, 0, none⟩ (.slice a k cap)).setCell ⟨e.fb, 1, none⟩ (.int .i64 M))) ∧ But F w ((w1.setCell ⟨e.fb, 0, none⟩ (.slice a k cap)).setCell ⟨e.fb, 1, none⟩ (.int .i64 M)) := by
    intro w1 M hA1 hb1 hm
    subst hm
    rw [hS2]
    have hE1 := hA1.ents _ (look_mem HL.out)
    have hcv : (Value.slice a k cap) = cutV k e.v := by rw [HV.out]; rfl
    rw [hcv]
    have hb2 : But (fun i => i = e.fb) w1 ((w1.setCell ⟨e.fb, 0, none⟩ (cutV k e.v)).setCell ⟨e.fb, 1, none⟩ (.int .i64 ((min e.synced k : Nat) : Int))) := (but_set _ _ _ _).trans' (but_set _ _ _ _)
    have hE2 := cutE_at (fb := e.fb) (v := e.v) (bytes := e.bytes) (s0 := e.synced) hE1 hk (min e.synced k)
    have hv3 : ∀ i, (cutV k e.v).ownBlock = some i → e.v.ownBlock = some i ∨ w1.heap.size ≤ i := fun i hi => .inl ((cutV_own _ _).symm.trans hi)
    have hA3 := hA1.upd_ (e' := ⟨e.fb, cutV k e.v, e.bytes.take k, min e.synced k⟩) HL.out hb2 (fun i _ h => .inl h) hE2 rfl hv3 (by show min e.synced k ≤ (e.bytes.take k).length; rw [List.length_take]; omega) (bytes_take hE0.2 k)
    have hb4 : But F w ((w1.setCell ⟨e.fb, 0, none⟩ (cutV k e.v)).setCell ⟨e.fb, 1, none⟩ (.int .i64 ((min e.synced k : Nat) : Int))) := (hb1.mono (T := F) (fun i _ h => hFT.out i h)).trans hb2 (fun i _ h => h ▸ hfb)
    refine ⟨hA3.hasGrow hb4 HLT.out (fun i hi => ?_), hb4⟩
    rcases foot_upd (w := w1) (e' := ⟨e.fb, cutV k e.v, e.bytes.take k, min e.synced k⟩) HL.out rfl hv3 i hi with h | h
    · exact .inl (HF.out i h)
    · exact .inr (Nat.le_trans hb1.size h)
  have HX := Lib.hid hfin
  have HSY : Hid (e.synced ≤ e.bytes.length) := Lib.hid hE0.1
  have hkc : k ≤ cap := by
    rcases hsh with ⟨_, h2, h3⟩ | ⟨_, _, _, _, h4, _⟩ <;> omega
  have hcm : cap ≤ 9223372036854775807 := by
    rcases hsh with ⟨_, h2, h3⟩ | ⟨_, _, _, _, _, h4⟩
    · omega
    · simpa [maxLen] using h4
  have u1 : (k : Int) ≤ (cap : Int) := by omega
  have u2 : (cap : Int) ≤ 9223372036854775807 := by omega
  obtain ⟨A0, hA0⟩ : ∃ A0, A0 = a := ⟨_, rfl⟩
  clear hA hl hd hE hv hn hu hF hlt hfoot hfin hE0 hA0 hcm hkc hS2
  go_enter Tryz.func90, Tryz.ntmps90
  go_wp2_with fail
  refine hf.out.mono ?_
  rintro x w' ⟨rfl, rfl⟩
  go_wp2_with fail
  refine he.out.mono ?_
  rintro x w1 ⟨rfl, hA1, hb1⟩
  have hE1 := hA1.ents _ (look_mem HL.out)
  have j0 : w1.cell? ⟨e.fb, 0, none⟩ = some (.slice a e.bytes.length cap) := by rw [← HV.out]; exact hE1.1.cell 0
  have j1 : w1.cell? ⟨e.fb, 1, none⟩ = some (.int .i64 e.synced) := hE1.1.cell 1
  have g0 := hE1.1.frozen 0
  have g1 := hE1.1.frozen 1
  have HA1 := Lib.hid hA1
  have HB1 := Lib.hid hb1
  clear hA1 hb1 hE1 k0
  rcases hsh with ⟨rfl, hc0, hl0⟩ | ⟨g, rfl, _, _, hlc, _⟩
  · have hk0 : k = 0 := by omega
    have HL0 := Lib.hid hl0
    subst hk0
    subst hc0
    clear hk
    rw [hl0] at j0
    clear hl0
    have q' : e.synced = 0 := by have := HSY.out; have := HL0.out; omega
    rw [q'] at j1
    clear q'
    go_wp2
    go_ret
    exact ⟨rfl, HX.out w1 0 HA1.out HB1.out (by simp)⟩
  · by_cases q : k < e.synced
    · have q' : decide (k < e.synced) = true := by simpa using q
      have HQ := Lib.hid q
      clear q hk hlc
      go_wp2
      go_ret
      exact ⟨rfl, HX.out w1 k HA1.out HB1.out (by have := HQ.out; omega)⟩
    · have q' : decide (k < e.synced) = false := by simpa using q
      have HQ := Lib.hid q
      clear q hk hlc
      go_wp2
      go_ret
      exact ⟨rfl, HX.out w1 e.synced HA1.out HB1.out (by have := HQ.out; omega)⟩
theorem cut_any (h : Has w p S F) (hu : used S ≤ 1000000000) (s : ByteArray) (hs : s.size ≤ maxLen) (k : Int) :
    Calls Tryz.prog 90 #[.pointer (some ⟨p, 0, none⟩), .string s, .int .i64 k] w fun e w' => e = .returned (errV (cut S s.data.toList k).1) ∧ Has w' p (cut S s.data.toList k).2 (grow F w w') ∧ But F w w' := by
  have h0 := Lib.hid (grow_refl h)
  obtain ⟨mb, cr, es, D, hA, hF, hlt⟩ := h
  rcases hd : S.down with _ | _
  · rcases hl : look s.data.toList es with _ | e
    · have e1 : cut S s.data.toList k = (5, S) := by
        unfold cut
        rw [hd, hA.look, hl]; rfl
      rw [e1]
      have hf := Lib.hid (find_none hA hd s hs hl)
      clear hA e1 hF hlt hd hu hl
      go_enter Tryz.func90, Tryz.ntmps90
      go_wp2_with fail
      refine hf.out.mono ?_
      rintro x w' ⟨rfl, rfl⟩
      go_wp2
      go_ret
      exact ⟨rfl, h0.out, But.refl _ _⟩
    · have hlf : look s.data.toList S.files = some e.file := by rw [hA.look, hl]; rfl
      have hle : e.bytes.length ≤ 1000000000 := by
        have := total_le_of (f := fun e : Ent => e.bytes.length) (look_mem hl)
        rw [used_eq hA] at this
        exact Nat.le_trans this hu
      by_cases hb : k < 0 ∨ (e.bytes.length : Int) < k
      · have e1 : cut S s.data.toList k = (1, S) := by
          unfold cut
          rw [hd, hlf, if_neg (by simp)]
          exact if_pos hb
        rw [e1]
        refine (cut_arg hA hd s hs hl k hb).mono ?_
        rintro x w' ⟨rfl, rfl⟩
        exact ⟨rfl, h0.out, But.refl _ _⟩
      · have e0 : cut S s.data.toList k = effect S fun T => { T with files := upd s.data.toList (fun f => ⟨f.bytes.take k.toNat, min f.synced k.toNat⟩) T.files } := by
          unfold cut
          rw [hd, hlf, if_neg (by simp)]
          exact if_neg hb
        rw [e0]
        obtain ⟨j, rfl⟩ := Int.eq_ofNat_of_zero_le (show 0 ≤ k by omega)
        rw [Int.toNat_natCast]
        rcases hn : now S with _ | kp
        · rw [effect_done hn, step_files, upd_const (a := e.file) hA.good.apart hlf]
          exact cut_yes hA hF hlt hd s hs hl j (by omega) hle hn
        · rw [effect_crash hn]
          refine (cut_crash hA hd s hs hl j (by omega) hu hn).mono ?_
          rintro x w' ⟨rfl, hA2, hb⟩
          exact ⟨rfl, has_crash hF hlt hA2 hb⟩
  · have e1 : cut S s.data.toList k = (15, S) := by
      unfold cut
      rw [hd]; rfl
    rw [e1]
    have hf := Lib.hid (find_down hA hd s)
    clear hA e1 hF hlt hd hu
    go_enter Tryz.func90, Tryz.ntmps90
    go_wp2_with fail
    refine hf.out.mono ?_
    rintro x w' ⟨rfl, rfl⟩
    go_wp2
    go_ret
    exact ⟨rfl, h0.out, But.refl _ _⟩
end
end Go.Proofs.YtkppliljlcihmaaGreatDoor.Disk
namespace Go.Proofs.YtkppliljlcihmaaGreatDoor.Disk
open Go.Proofs.YtkppliljlcihmaaGreatDoor.Mem
open Go.ChangeShapes Go.WideShapes Go.ChangeAt Go.RowKit
set_option linter.unusedVariables false
section
variable {w w' : World} {p mb : Nat} {S : St} {cr : Option Addr} {es : List (Nm × Ent)} {D : DataW Nat} {F : Nat → Prop} {n m : Nm}
theorem tells_del (h : Tells D es) (ha : Apart es) (ht : Maps.Tidy D) : Tells (D.del (.string n)) (del n es) := by
  refine ⟨fun x => ?_, fun x e hx z => ?_, ?_⟩
  · by_cases hx : x = n
    · subst hx
      rw [Maps.has_del_same, look_del_same]; rfl
    · rw [Maps.has_del_other (by simpa using hx), look_del_other hx, h.has]
  · by_cases hx2 : x = n
    · subst hx2
      rw [look_del_same] at hx; cases hx
    · rw [look_del_other hx2] at hx
      rw [Maps.atKey_del_other (by simpa using hx2)]
      exact h.key _ _ hx z
  · have h1 := Maps.size_del (k := .string n) ht
    rw [h.has, h.size] at h1
    rcases hl : look n es with _ | e
    · rw [hl] at h1
      rw [del_none hl]
      simpa using h1
    · rw [hl] at h1
      have h2 := length_del ha hl
      simp at h1
      omega
theorem tells_over (h : Tells D es) (ha : Apart es) (ht : Maps.Tidy D) (e : Ent) : Tells (D.put (.string n) (.held e.fb)) (ins n e (del n es)) := by
  have ha2 := apart_del ha n
  have hn : look n (del n es) = none := look_del_same
  refine ⟨fun x => ?_, fun x e2 hx z => ?_, ?_⟩
  · by_cases hx : x = n
    · subst hx
      rw [Maps.has_put_same (k := .string x) ht.isMap trivial, look_ins_same ha2 hn]; rfl
    · rw [Maps.has_put_other (by simpa using hx), look_ins_other ha2 hn hx, look_del_other hx, h.has]
  · by_cases hx2 : x = n
    · subst hx2
      rw [look_ins_same ha2 hn] at hx
      injection hx with hx
      subst hx
      exact Maps.atKey_put_same (k := .string x) ht.isMap trivial _ _
    · rw [look_ins_other ha2 hn hx2, look_del_other hx2] at hx
      rw [Maps.atKey_put_other (by simpa using hx2)]
      exact h.key _ _ hx z
  · rw [Maps.size_put ht, h.has, length_ins, h.size]
    rcases hl : look n es with _ | e2
    · rw [del_none hl]; rfl
    · have := length_del ha hl
      simp
      omega
theorem sep_del (h : Sep es) (n : Nm) : Sep (del n es) := h.filter _
theorem good_del (h : Good S) (n : Nm) : Good { S with files := del n S.files } := ⟨apart_del h.apart n, fun x hx => h.synced x (mem_del.1 hx).1, h.plan⟩
theorem foot_del : ∀ k, foot p mb cr (del n es) k → foot p mb cr es k := by
  rintro k (h1 | h1 | h1 | ⟨x, hx, h1⟩)
  · exact .inl h1
  · exact .inr (.inl h1)
  · exact .inr (.inr (.inl h1))
  · exact .inr (.inr (.inr ⟨x, (mem_del.1 hx).1, h1⟩))
/- The map is written, and nothing else. -/
theorem At.remap {es' : List (Nm × Ent)} {D' : DataW Nat} {fs : List (Nm × File)} (h : At w p S mb cr es D) (hb : But (fun k => k = mb) w w') (hm : w'.ownsMap Tryz.prog 9 ptrElem mb es'.length D') (ht : Tells D' es') (hf : mapv Ent.file es' = fs) (hE : ∀ x ∈ es', EntAt w x.2) (hs : Sep es') (hg : Good { S with files := fs }) :
    At w' p { S with files := fs } mb cr es' D' := by
  have hno : ∀ {g : Nat} {t : TypeId} {cs : Array Value}, Blk w g t cs → ¬ g = mb := fun {g t cs} hg e => map_blk_ne h.map hg e.symm
  refine ⟨h.blk.but hb (hno h.blk), hm, ht, fun hd => (h.plan hd).but hb ?_, fun a ha => Nat.lt_of_lt_of_le (h.crlt a ha) hb.size, hf, ?_, hs, hg⟩
  · intro a ha
    have hpl := h.plan hd
    rcases hS : S.plan with _ | ⟨l, k⟩
    · rw [hS] at hpl
      have : cr = none := hpl
      rw [this] at ha; cases ha
    · rw [hS] at hpl
      obtain ⟨b, hb2, hB⟩ := hpl
      rw [hb2] at ha
      injection ha with ha
      subst ha
      exact hno hB
  · intro x hx
    exact (hE x hx).but hb (hno (hE x hx).1) (fun k hk e => map_own_ne h.map (hE x hx).2 (e ▸ hk))
theorem but_turned {b : Nat} (h : w.mapTurned w' b) : But (fun k => k = b) w w' := (But.of_grown h.grown).mono (fun i _ e => by injection e)
theorem at_deleted (h : At w p S mb cr es D) {e : Ent} (hl : look n es = some e) (hm : w'.ownsMap Tryz.prog 9 ptrElem mb es.length (D.del (.string n))) (ht : w.mapTurned w' mb) :
    At w' p { S with files := del n S.files } mb cr (del n es) (D.del (.string n)) := by
  refine h.remap (but_turned ht) ?_ (tells_del h.tells h.apart (h.map.tidy law)) (by rw [mapv_del, h.files]) (fun x hx => h.ents x (mem_del.1 hx).1) (sep_del h.sep n) (good_del h.good n)
  have := ownsMap_tight hm
  rw [(tells_del h.tells h.apart (h.map.tidy law)).size] at this
  exact this
theorem at_moved (h : At w p S mb cr es D) {e : Ent} (hE : EntAt w e) (hsy : e.synced ≤ e.bytes.length ∧ Bytes e.bytes) (hsep : ∀ x ∈ es, Two e x.2) (hm : w'.ownsMap Tryz.prog 9 ptrElem mb (es.length + 1) (D.put (.string m) (.held e.fb))) (hg : w.grownBy w' (some mb)) :
    At w' p { S with files := ins m e.file (del m S.files) } mb cr (ins m e (del m es)) (D.put (.string m) (.held e.fb)) ∧ But (fun k => k = mb) w w' := by
  have hb : But (fun k => k = mb) w w' := (But.of_grown hg).mono (fun i _ e => by injection e)
  have htl := tells_over (n := m) h.tells h.apart (h.map.tidy law) e
  refine ⟨h.remap hb ?_ htl (by rw [mapv_ins, mapv_del, h.files]) ?_ ?_ ?_, hb⟩
  · have := ownsMap_tight hm
    rw [htl.size] at this
    exact this
  · intro x hx
    rcases mem_ins.1 hx with rfl | hx
    · exact hE
    · exact h.ents x (mem_del.1 hx).1
  · exact ((ins_perm _ _ _).pairwise_iff (fun {x y} h => h.symm)).2 (List.pairwise_cons.2 ⟨fun y hy => hsep y (mem_del.1 hy).1, sep_del h.sep m⟩)
  · refine ⟨apart_ins (apart_del h.good.apart m) look_del_same, fun x hx => ?_, h.good.plan⟩
    rcases mem_ins.1 hx with rfl | hx
    · exact hsy
    · exact h.good.synced x (mem_del.1 hx).1
end
end Go.Proofs.YtkppliljlcihmaaGreatDoor.Disk
namespace Go.Proofs.YtkppliljlcihmaaGreatDoor.Disk
open Go.Proofs.YtkppliljlcihmaaGreatDoor.Mem
open Go.ChangeShapes Go.WideShapes Go.ChangeAt Go.RowKit
set_option linter.unusedVariables false
section
variable {w : World} {p : Nat} {S : St} {F : Nat → Prop}
set_option maxRecDepth 20000 in
set_option maxRecDepth 100000 in
set_option maxHeartbeats 1000000 in
theorem delete_any (h : Has w p S F) (hu : used S ≤ 1000000000) (s : ByteArray) (hs : s.size ≤ maxLen)  :
    Calls Tryz.prog 64 #[.pointer (some ⟨p, 0, none⟩), .string s] w fun e w' => e = .returned (errV (delete S s.data.toList).1) ∧ Has w' p (delete S s.data.toList).2 (grow F w w') ∧ But F w w' := by
  have h0 := Lib.hid (grow_refl h)
  obtain ⟨mb, cr, es, D, hA, hF, hlt⟩ := h
  rcases hd : S.down with _ | _
  · rcases hl : look s.data.toList es with _ | e
    · have e1 : delete S s.data.toList = (5, S) := by
        unfold delete
        rw [hd, hA.look, hl]; rfl
      rw [e1]
      have hf := Lib.hid (find_none hA hd s hs hl)
      clear hA e1 hF hlt hd hu hl
      go_enter Tryz.func64, Tryz.ntmps64
      go_wp2_with fail
      refine hf.out.mono ?_
      rintro x w' ⟨rfl, rfl⟩
      go_wp2
      go_ret
      exact ⟨rfl, h0.out, But.refl _ _⟩
    · have hlf : look s.data.toList S.files = some e.file := by rw [hA.look, hl]; rfl
      have hE0 := hA.ent (look_mem hl)
      rcases hn : now S with _ | kp
      · have e1 : delete S s.data.toList = (0, { stepS S with files := del s.data.toList S.files }) := by
          unfold delete
          rw [hd, hlf, effect_done hn]
          rfl
        rw [e1]
        have hf := Lib.hid (find_some hA hd s hs hl)
        have he := Lib.hid (effect_yes hA hd hn)
        have HL := Lib.hid hl
        have HF := Lib.hid hF
        have HLT := Lib.hid hlt
        have HE0 := Lib.hid hE0
        have hfoot : ∀ i, (i = p ∨ ∃ a, cr = some a ∧ a.block = i) → F i := fun i e => hF i (e.elim .inl (fun h => .inr (.inr (.inl h))))
        have hfb : F e.fb := hF _ (.inr (.inr (.inr ⟨_, look_mem hl, .inl rfl⟩)))
        have hfm : F mb := hF _ (.inr (.inl rfl))
        have hFT := Lib.hid hfoot
        have hap := Lib.hid hA.apart
        clear hA e1 hF hlt hl hd hu hn hfoot hE0 hlf
        go_enter Tryz.func64, Tryz.ntmps64
        go_wp2_with fail
        refine hf.out.mono ?_
        rintro x w' ⟨rfl, rfl⟩
        go_wp2_with fail
        refine he.out.mono ?_
        rintro x w1 ⟨rfl, hA, hb⟩
        have hbF := Lib.hid (hb.mono (T := F) (fun i _ h => hFT.out i h))
        clear hb
        have hm1 := hA.map
        have c0 : w1.cell? ⟨p, 0, none⟩ = some (.map (some mb)) := hA.blk.cell 0
        have HA := Lib.hid hA
        clear hA
        go_wp2_with (first | (at_delete; refine wpList_delete_own _ rfl _ _ 67 9 rfl 85 law Tryz.underlying67 _ mb _ _ rfl hm1 _ _ rfl (WideMaps.keyOf_string_mk Tryz.underlying9 hs) ?_; intro w2 hm2 ht2))
        go_ret
        have hA2 := at_deleted HA.out HL.out hm2 ht2
        have hb3 : But F w w2 := hbF.out.trans (but_turned ht2) (fun i _ h => h ▸ hfm)
        exact ⟨rfl, hA2.hasGrow hb3 HLT.out (fun k hk => .inl (HF.out k (foot_del k hk))), hb3⟩
      · have e1 : delete S s.data.toList = (15, crash kp S) := by
          unfold delete
          rw [hd, hlf, effect_crash hn]; rfl
        rw [e1]
        have hf := Lib.hid (find_some hA hd s hs hl)
        have he := Lib.hid (effect_no hA hd hn hu)
        have HF := Lib.hid hF
        have HLT := Lib.hid hlt
        clear hA e1 hF hlt hl hd hu hn hlf hE0
        go_enter Tryz.func64, Tryz.ntmps64
        go_wp2_with fail
        refine hf.out.mono ?_
        rintro x w' ⟨rfl, rfl⟩
        go_wp2_with fail
        refine he.out.mono ?_
        rintro x w1 ⟨rfl, hA, hb⟩
        have HX := Lib.hid (has_crash HF.out HLT.out hA hb)
        clear hA hb
        go_wp2
        go_ret
        exact ⟨rfl, HX.out⟩
  · have e1 : delete S s.data.toList = (15, S) := by
      unfold delete
      rw [hd]; rfl
    rw [e1]
    have hf := Lib.hid (find_down hA hd s)
    clear hA e1 hF hlt hd hu
    go_enter Tryz.func64, Tryz.ntmps64
    go_wp2_with fail
    refine hf.out.mono ?_
    rintro x w' ⟨rfl, rfl⟩
    go_wp2
    go_ret
    exact ⟨rfl, h0.out, But.refl _ _⟩
set_option maxRecDepth 20000 in
set_option maxRecDepth 100000 in
set_option maxHeartbeats 1000000 in
theorem rename_any (h : Has w p S F) (hu : used S ≤ 1000000000) (s : ByteArray) (hs : s.size ≤ maxLen) (t : ByteArray) (ht : t.size ≤ maxLen) (hlen : S.files.length ≤ 1000000) :
    Calls Tryz.prog 86 #[.pointer (some ⟨p, 0, none⟩), .string s, .string t] w fun e w' => e = .returned (errV (rename S s.data.toList t.data.toList).1) ∧ Has w' p (rename S s.data.toList t.data.toList).2 (grow F w w') ∧ But F w w' := by
  have h0 := Lib.hid (grow_refl h)
  obtain ⟨mb, cr, es, D, hA, hF, hlt⟩ := h
  rcases hd : S.down with _ | _
  · rcases hl : look s.data.toList es with _ | e
    · have e1 : rename S s.data.toList t.data.toList = (5, S) := by
        unfold rename
        rw [hd, hA.look, hl]; rfl
      rw [e1]
      have hf := Lib.hid (find_none hA hd s hs hl)
      clear hA e1 hF hlt hd hu hl
      go_enter Tryz.func86, Tryz.ntmps86
      go_wp2_with fail
      refine hf.out.mono ?_
      rintro x w' ⟨rfl, rfl⟩
      go_wp2
      go_ret
      exact ⟨rfl, h0.out, But.refl _ _⟩
    · have hlf : look s.data.toList S.files = some e.file := by rw [hA.look, hl]; rfl
      have hE0 := hA.ent (look_mem hl)
      have hlen2 : (del s.data.toList es).length ≤ 1000000 := by
        refine Nat.le_trans (List.length_filter_le _ _) ?_
        rw [← length_mapv Ent.file, hA.files]; exact hlen
      have HLEN := Lib.hid hlen2
      clear hlen2
      rcases hn : now S with _ | kp
      · have e1 : rename S s.data.toList t.data.toList = (0, { stepS S with files := ins t.data.toList e.file (del t.data.toList (del s.data.toList S.files)) }) := by
          unfold rename
          rw [hd, hlf, effect_done hn]
          rw [if_neg (by simp), if_neg (by simp)]
          show ((0 : Int), { stepS S with files := moved s.data.toList t.data.toList S.files }) = _
          unfold moved
          rw [hlf]
        rw [e1]
        have hf := Lib.hid (find_some hA hd s hs hl)
        have he := Lib.hid (effect_yes hA hd hn)
        have HL := Lib.hid hl
        have HF := Lib.hid hF
        have HLT := Lib.hid hlt
        have HE0 := Lib.hid hE0
        have hfoot : ∀ i, (i = p ∨ ∃ a, cr = some a ∧ a.block = i) → F i := fun i e => hF i (e.elim .inl (fun h => .inr (.inr (.inl h))))
        have hfb : F e.fb := hF _ (.inr (.inr (.inr ⟨_, look_mem hl, .inl rfl⟩)))
        have hfm : F mb := hF _ (.inr (.inl rfl))
        have hFT := Lib.hid hfoot
        have hap := Lib.hid hA.apart
        clear hA e1 hF hlt hl hd hu hn hfoot hE0 hlf
        go_enter Tryz.func86, Tryz.ntmps86
        go_wp2_with fail
        refine hf.out.mono ?_
        rintro x w' ⟨rfl, rfl⟩
        go_wp2_with fail
        refine he.out.mono ?_
        rintro x w1 ⟨rfl, hA, hb⟩
        have hbF := Lib.hid (hb.mono (T := F) (fun i _ h => hFT.out i h))
        clear hb
        have hm1 := hA.map
        have c0 : w1.cell? ⟨p, 0, none⟩ = some (.map (some mb)) := hA.blk.cell 0
        have hne := map_blk_ne hA.map hA.blk
        have HA := Lib.hid hA
        clear hA
        go_wp2_with (first
          | (at_delete; refine wpList_delete_own _ rfl _ _ 67 9 rfl 85 law Tryz.underlying67 _ mb _ _ rfl hm1 _ _ rfl (WideMaps.keyOf_string_mk Tryz.underlying9 hs) ?_; intro w2 hm2 ht2; have hA2 := at_deleted HA.out HL.out hm2 ht2; have hm3 := hA2.map; have c2 : w2.cell? ⟨p, 0, none⟩ = some (.map (some mb)) := hA2.blk.cell 0; have HA2 := Lib.hid hA2; have HT2 := Lib.hid ht2; clear hA2 ht2 hm1 c0 hm2)
          | (at_mapUpdate; refine wpList_mapUpdate_own _ rfl _ _ _ 67 rfl 9 85 law Tryz.underlying67 _ mb (del s.data.toList es).length _ rfl hm3 (by have := HLEN.out; unfold maxLen; omega) _ _ _ rfl rfl (WideMaps.keyOf_string_mk Tryz.underlying9 ht) (.held e.fb) [] rfl ?_; intro w3 hm4 hg3))
        go_ret
        have hE1 := HA.out.ents _ (look_mem HL.out)
        have hE2 : EntAt w2 e := hE1.but (but_turned HT2.out) (fun h => map_blk_ne HA.out.map hE1.1 h.symm) (fun k hk h => map_own_ne HA.out.map hE1.2 (h ▸ hk))
        obtain ⟨hA3, hb4⟩ := at_moved (m := t.data.toList) HA2.out hE2 HE0.out (fun x hx => sep_of HA.out.sep (look_mem HL.out) (mem_del.1 hx).1 (fun h => (mem_del.1 hx).2 h.symm)) hm4 hg3
        have hb3 : But F w w3 := (hbF.out.trans (but_turned HT2.out) (fun i _ h => h ▸ hfm)).trans hb4 (fun i _ h => h ▸ hfm)
        refine ⟨rfl, hA3.hasGrow hb3 HLT.out (fun k hk => .inl (HF.out k ?_)), hb3⟩
        rcases hk with h1 | h1 | h1 | ⟨x, hx, h1⟩
        · exact .inl h1
        · exact .inr (.inl h1)
        · exact .inr (.inr (.inl h1))
        · rcases mem_ins.1 hx with rfl | hx
          · exact .inr (.inr (.inr ⟨_, look_mem HL.out, h1⟩))
          · exact .inr (.inr (.inr ⟨x, (mem_del.1 (mem_del.1 hx).1).1, h1⟩))
      · have e1 : rename S s.data.toList t.data.toList = (15, crash kp S) := by
          unfold rename
          rw [hd, hlf, effect_crash hn]; rfl
        rw [e1]
        have hf := Lib.hid (find_some hA hd s hs hl)
        have he := Lib.hid (effect_no hA hd hn hu)
        have HF := Lib.hid hF
        have HLT := Lib.hid hlt
        clear hA e1 hF hlt hl hd hu hn hlf hE0
        go_enter Tryz.func86, Tryz.ntmps86
        go_wp2_with fail
        refine hf.out.mono ?_
        rintro x w' ⟨rfl, rfl⟩
        go_wp2_with fail
        refine he.out.mono ?_
        rintro x w1 ⟨rfl, hA, hb⟩
        have HX := Lib.hid (has_crash HF.out HLT.out hA hb)
        clear hA hb
        go_wp2
        go_ret
        exact ⟨rfl, HX.out⟩
  · have e1 : rename S s.data.toList t.data.toList = (15, S) := by
      unfold rename
      rw [hd]; rfl
    rw [e1]
    have hf := Lib.hid (find_down hA hd s)
    clear hA e1 hF hlt hd hu
    go_enter Tryz.func86, Tryz.ntmps86
    go_wp2_with fail
    refine hf.out.mono ?_
    rintro x w' ⟨rfl, rfl⟩
    go_wp2
    go_ret
    exact ⟨rfl, h0.out, But.refl _ _⟩
end
end Go.Proofs.YtkppliljlcihmaaGreatDoor.Disk
