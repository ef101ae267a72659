/- Contract of disk's Create. -/
import Derived.Test.YtiaaadeenbjciaaDiskCalls
namespace Go.Proofs.Ytiaaadeenbjciaa.Disk
open Go.Proofs.Ytiaaadeenbjciaa.Mem
open Go.ChangeShapes Go.WideShapes Go.ChangeAt Go.RowKit
set_option linter.unusedVariables false
theorem wpList_len_named {w : World} {ops : Array Oper} {rest : List Oper} {o : Oper} {a : Act} {Q : Exit → Act → World → Prop} (hg : o.guard = none) (m : Operand) (t : TypeId) (hop : o.op = Op.call { callee := Callee.builtin Builtin.len, args := #[m], argTypes := #[t] })
    (k e : TypeId) (ht : Try.prog.underlying t = some (.map k e)) (R : Value → Option (DataW Nat × List MemPlace)) (b n : Nat) (D : DataW Nat) (hm : a.eval m = .map (some b)) (hown : w.ownsMap Try.prog k R b n D) (Z : Int) (hZ : Hid (Z = (Maps.size D : Int)))
    (hK : wpList Try.prog ops Q rest (a.put o.dst (.int .i64 Z)) w) : wpList Try.prog ops Q (o :: rest) a w :=
  wpList_len_own w hg m t hop k e ht R b n D hm hown (by rw [← hZ.out]; exact hK)
section
variable {w w' : World} {p mb : Nat} {S : St} {cr : Option Addr} {es : List (Nm × Ent)} {D : DataW Nat} {F : Nat → Prop}
theorem at_created (h : At w p S mb cr es D) {n : Nm} (hn : look n es = none)
    (hm : w'.ownsMap Try.prog 9 ptrElem mb (es.length + 1) (D.put (.string n) (.held w.heap.size))) (hg : (w.alloc (.cells #[.slice none 0 0, .int .i64 0] 70)).grownBy w' (some mb)) :
    At w' p { S with files := ins n ⟨[], 0⟩ S.files } mb cr (ins n ⟨w.heap.size, .slice none 0 0, [], 0⟩ es) (D.put (.string n) (.held w.heap.size)) ∧ But (fun k => k = mb) w w' := by
  have hb : But (fun k => k = mb) w w' := ((But.refl _ w).alloc _).trans' ((But.of_grown hg).mono (fun i _ e => by injection e))
  have hnew : Blk w' w.heap.size 70 #[.slice none 0 0, .int .i64 0] := (Blk.new w _ _).but ((But.of_grown hg).mono (T := fun k => k = mb) (fun i _ e => by injection e)) (fun e => by have := h.map.lt; omega)
  have hno : ∀ {g : Nat} {t : TypeId} {cs : Array Value}, Blk w g t cs → ¬ g = mb := fun {g t cs} hg e => map_blk_ne h.map hg e.symm
  refine ⟨⟨h.blk.but hb (hno h.blk), ?_, tells_put h.tells h.apart hn (h.map.tidy law) ⟨w.heap.size, .slice none 0 0, [], 0⟩, fun hd => (h.plan hd).but hb ?_, fun a ha => Nat.lt_of_lt_of_le (h.crlt a ha) hb.size, ?_, ?_, ?_, ?_⟩, hb⟩
  · rw [length_ins]; exact hm
  · intro a ha
    have hpl := h.plan hd
    rcases hS : S.plan with _ | ⟨l, k⟩
    · rw [hS] at hpl
      have : cr = none := hpl
      rw [this] at ha; cases ha
    · rw [hS] at hpl
      obtain ⟨b, hb2, hB⟩ := hpl
      rw [hb2] at ha
      injection ha with ha
      subst ha
      exact hno hB
  · show mapv Ent.file (ins _ _ es) = ins n ⟨[], 0⟩ S.files
    rw [mapv_ins, h.files]; rfl
  · intro x hx
    rcases mem_ins.1 hx with rfl | hx
    · exact ⟨hnew, World.ownsRow_nil _ _ _ _⟩
    · exact (h.ents x hx).but hb (hno (h.ents x hx).1) (fun k hk e => map_own_ne h.map (h.ents x hx).2 (e ▸ hk))
  · refine ((ins_perm _ _ es).pairwise_iff (fun {x y} h => h.symm)).2 (List.pairwise_cons.2 ⟨fun y hy => ⟨?_, fun k hk => by cases hk⟩, h.sep⟩)
    have := (h.ents y hy).1.lt
    show w.heap.size ≠ y.2.fb
    omega
  · have hn' : look n S.files = none := by rw [h.look, hn]; rfl
    refine ⟨apart_ins h.good.apart hn', fun x hx => ?_, h.good.plan⟩
    rcases mem_ins.1 hx with rfl | hx
    · exact ⟨Nat.le_refl _, bytes_nil⟩
    · exact h.good.synced x hx
theorem foot_created {n : Nm} {b : Nat} (hb : w.heap.size ≤ b) : ∀ k, foot p mb cr (ins n ⟨b, .slice none 0 0, [], 0⟩ es) k → foot p mb cr es k ∨ w.heap.size ≤ k := by
  rintro k (h1 | h1 | h1 | ⟨x, hx, h1⟩)
  · exact .inl (.inl h1)
  · exact .inl (.inr (.inl h1))
  · exact .inl (.inr (.inr (.inl h1)))
  · rcases mem_ins.1 hx with rfl | hx
    · rcases h1 with h1 | h1
      · exact .inr (by rw [h1]; exact hb)
      · cases h1
    · exact .inl (.inr (.inr (.inr ⟨x, hx, h1⟩)))
set_option maxRecDepth 100000 in
set_option maxHeartbeats 1000000 in
theorem create_any (h : Has w p S F) (hu : used S ≤ 1000000000) (s : ByteArray) (hs : s.size ≤ maxLen) :
    Calls Try.prog 9 #[.pointer (some ⟨p, 0, none⟩), .string s] w fun e w' => e = .returned (errV (create S s.data.toList).1) ∧ Has w' p (create S s.data.toList).2 (grow F w w') ∧ But F w w' := by
  have h0 := Lib.hid (grow_refl h)
  obtain ⟨mb, cr, es, D, hA, hF, hlt⟩ := h
  have c0 : w.cell? ⟨p, 0, none⟩ = some (.map (some mb)) := hA.blk.cell 0
  have c4 : w.cell? ⟨p, 4, none⟩ = some (.bool S.down) := hA.blk.cell 4
  rcases hd : S.down with _ | _
  · rw [hd] at c4
    rcases hl : look s.data.toList es with _ | e
    · have hr := hA.missed hs hl (zeroF w)
      have hlf : look s.data.toList S.files = none := by rw [hA.look, hl]; rfl
      have hmap := hA.map
      obtain ⟨Z, hZ0⟩ : ∃ Z : Int, Z = (Maps.size D : Int) := ⟨_, rfl⟩
      have hZ := Lib.hid hZ0
      clear hZ0
      by_cases hsz : 1000 ≤ Z
      · have e1 : create S s.data.toList = (12, S) := by
          unfold create
          rw [hd, hlf]
          simp only [Bool.false_eq_true, if_false, Option.isSome_none]
          rw [if_pos (by rw [← hA.files, length_mapv, ← hA.tells.size]; have := hZ.out; omega)]
        rw [e1]
        clear hA e1 hF hlt hl hd hu hlf
        go_enter Try.func9, Try.ntmps9
        go_wp2_with (first | (at_len; refine wpList_len_named rfl _ 62 rfl 9 66 Try.underlying62 _ mb _ D rfl hmap Z hZ ?_))
        go_ret
        exact ⟨rfl, h0.out, But.refl _ _⟩
      · have e0 : create S s.data.toList = effect S fun T => { T with files := ins s.data.toList ⟨[], 0⟩ T.files } := by
          unfold create
          rw [hd, hlf]
          simp only [Bool.false_eq_true, if_false, Option.isSome_none]
          rw [if_neg (by rw [← hA.files, length_mapv, ← hA.tells.size]; have := hZ.out; omega)]
        rw [e0]
        clear e0
        have hsz' : Z < 1000 := by omega
        rcases hn : now S with _ | kp
        · rw [effect_done hn]
          have he := Lib.hid (effect_yes hA hd hn)
          have HL := Lib.hid hl
          have HF := Lib.hid hF
          have HLT := Lib.hid hlt
          have hfoot : ∀ i, (i = p ∨ ∃ a, cr = some a ∧ a.block = i) → F i := fun i e => hF i (e.elim .inl (fun h => .inr (.inr (.inl h))))
          have hfm : F mb := hF _ (.inr (.inl rfl))
          have hFT := Lib.hid hfoot
          have hlen : es.length < 1000 := by rw [← hA.tells.size]; have := hZ.out; omega
          have HLEN := Lib.hid hlen
          clear hlen
          clear hA hF hlt hl hd hu hn hfoot hlf hsz
          go_enter Try.func9, Try.ntmps9
          go_wp2_with (first | (at_len; refine wpList_len_named rfl _ 62 rfl 9 66 Try.underlying62 _ mb _ D rfl hmap Z hZ ?_) | fail)
          refine he.out.mono ?_
          rintro x w1 ⟨rfl, hA, hb⟩
          have hm1 := hA.map
          have c0' : w1.cell? ⟨p, 0, none⟩ = some (.map (some mb)) := hA.blk.cell 0
          have hplt := hA.blk.lt
          clear hmap c0 c4 hr
          go_wp2_with (first | (at_mapUpdate; refine wpList_mapUpdate_own _ rfl _ _ _ 62 rfl 9 66 law Try.underlying62 _ mb es.length _ rfl (hm1.alloc _) (by have := HLEN.out; unfold maxLen; omega) _ _ _ rfl rfl (WideMaps.keyOf_string_mk Try.underlying9 hs) (.held w1.heap.size) [] rfl ?_; intro w2 hm2 hg2))
          go_ret
          obtain ⟨hA2, hb2⟩ := at_created hA HL.out hm2 hg2
          have hb3 : But F w w2 := (hb.mono (T := F) (fun i _ h => hFT.out i h)).trans hb2 (fun i _ h => h ▸ hfm)
          refine ⟨rfl, hA2.hasGrow hb3 HLT.out (fun k hk => ?_), hb3⟩
          rcases foot_created (w := w) hb.size k hk with h | h
          · exact .inl (HF.out k h)
          · exact .inr h
        · rw [effect_crash hn]
          have he := Lib.hid (effect_no hA hd hn hu)
          have HF := Lib.hid hF
          have HLT := Lib.hid hlt
          clear hA hF hlt hl hd hu hn hlf hsz
          go_enter Try.func9, Try.ntmps9
          go_wp2_with (first | (at_len; refine wpList_len_named rfl _ 62 rfl 9 66 Try.underlying62 _ mb _ D rfl hmap Z hZ ?_) | fail)
          refine he.out.mono ?_
          rintro x w1 ⟨rfl, hA, hb⟩
          have HX := Lib.hid (has_crash HF.out HLT.out hA hb)
          clear hA hb
          go_wp2
          go_ret
          exact ⟨rfl, HX.out⟩
    · have e1 : create S s.data.toList = (6, S) := by
        unfold create
        rw [hd, hA.look, hl]; rfl
      rw [e1]
      have hr := hA.found hs hl (zeroF w)
      clear hA e1 hF hlt hl hd hu
      go_enter Try.func9, Try.ntmps9
      go_wp2
      go_ret
      exact ⟨rfl, h0.out, But.refl _ _⟩
  · have e1 : create S s.data.toList = (15, S) := by
      unfold create
      rw [hd]; rfl
    rw [e1]
    rw [hd] at c4
    clear hA e1 hF hlt hd hu
    go_enter Try.func9, Try.ntmps9
    go_wp2
    go_ret
    exact ⟨rfl, h0.out, But.refl _ _⟩
end
end Go.Proofs.Ytiaaadeenbjciaa.Disk
