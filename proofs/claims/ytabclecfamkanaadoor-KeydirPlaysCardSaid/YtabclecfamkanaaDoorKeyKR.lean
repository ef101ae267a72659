/- What holds behind k deeds of KeydirKeeps; more deeds than it looks at. -/
import Derived.Test.YtabclecfamkanaaDoorKeyEq
namespace Go.Proofs.YtabclecfamkanaaDoor.Key
open Go.Proofs.YtabclecfamkanaaDoor.Mem Go.Proofs.YtabclecfamkanaaDoor.Fnv
open Go.ChangeShapes Go.WideShapes Go.ChangeAt Go.RowKit Go.ChangeMaps Go.MapKept
set_option linter.unusedVariables false
set_option linter.unusedSimpArgs false
theorem deed_size : (Tryd.prog.info? 34).map (·.size) = some 8 := by kernel_rfl
theorem dcells_one (x : Deed) : ∀ v ∈ dcells x, v.oneCell' = true := by
  intro v hv
  rcases List.mem_cons.1 hv with rfl | h
  · rfl
  · exact ecells_one _ v h
def dzero : Deed := ⟨false, zero⟩
/- What holds behind k deeds. -/
structure KR (W : World) (l : List Deed) (p mb k : Nat) (wr : World) (g : Nat) (T : Tab) (D : DataW Ent) : Prop where
  tab : KAt wr p g T k (cnt T)
  map : wr.ownsMap Tryd.prog 9 entElem mb k D
  tells : Tells D T
  but : But (fun _ => False) W wr
  lows : W.heap.size ≤ p ∧ W.heap.size ≤ g ∧ W.heap.size ≤ mb
  keys : ∀ j (h : j < l.length), j < k → (l[j]).e.key.size ≤ 100
theorem ownsMap_but {H : Type} {P : Program} {k : TypeId} {R : Value → Option (DataW H × List MemPlace)} {w w' : World} {b n : Nat} {D : DataW H} {T : Nat → Prop} (h : w.ownsMap P k R b n D) (hb : But T w w') (hg : ¬ T b) : w'.ownsMap P k R b n D := by
  have hlt := h.lt
  obtain ⟨es, clock, hh, r⟩ := h
  exact ⟨es, clock, (hb.block b hlt hg).trans hh, r⟩
theorem map_blk_ne {H : Type} {P : Program} {w : World} {k : TypeId} {R : Value → Option (DataW H × List MemPlace)} {b n g : Nat} {t : TypeId} {cs : Array Value} {D : DataW H} (h : w.ownsMap P k R b n D) (hg : Blk w g t cs) : b ≠ g := by
  rintro rfl
  obtain ⟨es, clock, hh, r⟩ := h
  have h2 : w.heap[b]? = some (.cells cs t (0, 0)) := hg
  rw [hh] at h2
  cases h2
section
variable {W wr w' : World} {l : List Deed} {p mb k g : Nat} {T : Tab} {D : DataW Ent}
theorem KR.step_but {F : Nat → Prop} (h : KR W l p mb k wr g T D) (hb : But F wr w') (hF : ∀ j, j < wr.heap.size → ¬ F j) : KR W l p mb k w' g T D where
  tab := h.tab.but hb (hF _ h.tab.blk.lt) (hF _ h.tab.row.lt)
  map := ownsMap_but h.map hb (hF _ h.map.lt)
  tells := h.tells
  but := h.but.trans hb (fun j hj hf => by
    rcases Nat.lt_or_ge j wr.heap.size with h1 | h1
    · exact hF j h1 hf
    · have := h.but.size; omega)
  lows := h.lows
  keys := h.keys
theorem turned_but {w w' : World} {b : Nat} (h : w.mapTurned w' b) : But (fun k => k = b) w w' := by
  obtain ⟨es, clock, es', clock', hb, rfl⟩ := h
  exact ⟨rfl, rfl, rfl, by simp [setBlock], fun i _ hi => heap_setBlock_other hb _ hi⟩
theorem KR.put (h : KR W l p mb k wr g T D) (hk : k < l.length) {w1 w2 : World} {g' : Nat} (h1 : KAt w1 p g' (Key.put T (l[k]).e) (k + 1) (cnt (Key.put T (l[k]).e))) (hg : g' = g ∨ wr.heap.size ≤ g') (hb : But (fun j => j = p ∨ j = g) wr w1)
    (hm : w2.ownsMap Tryd.prog 9 entElem mb (k + 1) (D.put (.string (l[k]).e.key.data.toList) (.held (l[k]).e))) (hb2 : But (fun j => j = mb) w1 w2) (hs : (l[k]).e.key.size ≤ 100) :
    KR W l p mb (k + 1) w2 g' (Key.put T (l[k]).e) (D.put (.string (l[k]).e.key.data.toList) (.held (l[k]).e)) where
  tab := h1.but hb2 (fun e => map_blk_ne hm (h1.blk.but hb2 (fun e => map_blk_ne (ownsMap_but h.map hb (by rintro (e | e); exact map_blk_ne h.map h.tab.blk e; exact map_blk_ne h.map h.tab.row e)) h1.blk e.symm)) e.symm) (fun e => by
    have h3 := ownsMap_but h.map hb (fun e => by
      rcases e with e | e
      · exact map_blk_ne h.map h.tab.blk e
      · exact map_blk_ne h.map h.tab.row e)
    exact map_blk_ne h3 h1.row e.symm)
  map := hm
  tells := h.tells.put h.map.isMap (h.map.tidy law) h.tab.good _
  but := (h.but.trans hb (fun j hj e => by have := h.lows; omega)).trans hb2 (fun j hj e => by have := h.lows; omega)
  lows := ⟨h.lows.1, by have := h.but.size; have := h.lows; omega, h.lows.2.2⟩
  keys := fun j hj hjk => by
    by_cases e : j = k
    · subst e; exact hs
    · exact h.keys j hj (by omega)
theorem KR.del (h : KR W l p mb k wr g T D) (hk : k < l.length) {w1 w2 : World} (h1 : KAt w1 p g (Key.del T (l[k]).e.key) (k + 1) (cnt (Key.del T (l[k]).e.key))) (hb : But (fun j => j = p ∨ j = g) wr w1)
    (hm : w2.ownsMap Tryd.prog 9 entElem mb k (D.del (.string (l[k]).e.key.data.toList))) (hb2 : But (fun j => j = mb) w1 w2) (hs : (l[k]).e.key.size ≤ 100) :
    KR W l p mb (k + 1) w2 g (Key.del T (l[k]).e.key) (D.del (.string (l[k]).e.key.data.toList)) where
  tab := by
    have h3 := ownsMap_but h.map hb (fun e => by
      rcases e with e | e
      · exact map_blk_ne h.map h.tab.blk e
      · exact map_blk_ne h.map h.tab.row e)
    exact h1.but hb2 (fun e => map_blk_ne h3 h1.blk e.symm) (fun e => map_blk_ne h3 h1.row e.symm)
  map := hm.mono (by omega)
  tells := h.tells.del (h.map.tidy law) h.tab.good _
  but := (h.but.trans hb (fun j hj e => by have := h.lows; omega)).trans hb2 (fun j hj e => by have := h.lows; omega)
  lows := h.lows
  keys := fun j hj hjk => by
    by_cases e : j = k
    · subst e; exact hs
    · exact h.keys j hj (by omega)
end
set_option maxRecDepth 100000 in
set_option maxHeartbeats 400000 in
theorem keeps_away (W : World) (a : Option Addr) (n c : Nat) (h : 300 < n) (hn : n ≤ 9223372036854775807) (hc : Can W) :
    Calls Tryd.prog 4 #[.slice a n c] W fun e w' => e = .returned (.bool true) ∧ But (fun _ => False) W w' := by
  have HU := Lib.hid (up_any hc)
  have hi : (300 : Int) < (n : Int) := by omega
  clear h hc
  go_enter Tryd.func4, Tryd.ntmps4
  go_wp2_with fail
  refine HU.out.mono ?_
  rintro e w1 ⟨rfl, hB1⟩
  have HN := Lib.hid (knew_any w1)
  have HB1 := Lib.hid hB1
  clear hB1 HU
  go_wp2_with fail
  refine HN.out.mono ?_
  rintro e w2 ⟨rfl, hA, hB⟩
  have HB2 := Lib.hid (HB1.out.trans hB (fun j hj h => h))
  clear hA hB HN HB1
  go_wp2_with fail
  go_ret
  exact ⟨rfl, HB2.out⟩
end Go.Proofs.YtabclecfamkanaaDoor.Key
