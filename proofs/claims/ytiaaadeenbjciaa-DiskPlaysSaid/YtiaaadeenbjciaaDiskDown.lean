/- Contract of disk's goDown: what a crash leaves of each file, in whatever order the files are met. -/
import Derived.Test.YtiaaadeenbjciaaDiskUsed
import Derived.RegionTactic
import Derived.BigRegion
namespace Go.Proofs.Ytiaaadeenbjciaa.Disk
open Go.Proofs.Ytiaaadeenbjciaa.Mem
open Go.ChangeShapes Go.WideShapes Go.ChangeAt Go.RowKit
open Go.Proofs (encStr)
set_option linter.unusedVariables false
def cutV (n : Nat) : Value → Value
  | .slice a _ c => .slice a n c
  | v => v
theorem cutV_own (n : Nat) (v : Value) : (cutV n v).ownBlock = v.ownBlock := by
  cases v <;> try rfl
  rename_i a _ _
  cases a <;> rfl
theorem own_cut {w : World} {base len : Nat} {e : TypeId} {v : Value} {xs : List Int} (h : w.ownsRow base e 1 v len (cellsOf xs)) {n : Nat} (hn : n ≤ len) : w.ownsRow base e 1 (cutV n v) n (cellsOf (xs.take n)) := by
  have hl : xs.length = len := by have := h.1; rw [cellsOf_length] at this; omega
  refine ⟨by rw [cellsOf_length, List.length_take]; omega, ?_⟩
  rcases h.2 with ⟨rfl, rfl⟩ | ⟨g, cap, cur, rfl, hb, hh, h1, h2, h3, h4⟩
  · have : n = 0 := by omega
    subst this
    exact .inl ⟨rfl, rfl⟩
  · refine .inr ⟨g, cap, cur, rfl, hb, hh, by omega, h2, h3, ?_⟩
    rw [cellsOf, List.map_take]
    show _ = List.take n (cellsOf xs)
    rw [← h4, List.take_take]
    congr 1
    omega
def truncE (keep : Int) (e : Ent) : Ent := ⟨e.fb, cutV (cutTo keep e.file) e.v, e.bytes.take (cutTo keep e.file), cutTo keep e.file⟩
theorem cutTo_le {keep : Int} {f : File} (h : f.synced ≤ f.bytes.length) : cutTo keep f ≤ f.bytes.length := by unfold cutTo; omega
def part (keep : Int) (left : Lit → Bool) (es : List (Nm × Ent)) : List (Nm × Ent) := es.map fun x => if left (.string x.1) then x else (x.1, truncE keep x.2)
theorem part_mem {keep : Int} {left : Lit → Bool} {es : List (Nm × Ent)} {x : Nm × Ent} (h : x ∈ part keep left es) : ∃ y ∈ es, x.1 = y.1 ∧ x.2.fb = y.2.fb ∧ x.2.v.ownBlock = y.2.v.ownBlock := by
  obtain ⟨y, hy, rfl⟩ := List.mem_map.1 h
  refine ⟨y, hy, ?_⟩
  split
  · exact ⟨rfl, rfl, rfl⟩
  · exact ⟨rfl, rfl, cutV_own _ _⟩
theorem part_struck {keep : Int} {left : Lit → Bool} {es : List (Nm × Ent)} {n : Nm} {e : Ent} (ha : Apart es) (hl : look n es = some e) :
    part keep (fun z => left z && !z.sameKey (.string n)) es = upd n (fun _ => truncE keep e) (part keep left es) := by
  unfold part upd
  rw [List.map_map]
  refine List.map_congr_left fun x hx => ?_
  by_cases e1 : x.1 = n
  · have e2 : x.2 = e := by
      have := look_of_mem (n := n) (a := x.2) ha (by rw [← e1]; exact hx)
      rw [hl] at this
      injection this with this
      exact this.symm
    have e3 : (left (.string x.1) && !(Lit.string x.1).sameKey (.string n)) = false := by rw [e1]; exact struck_same left n
    simp only [e3, Function.comp, Bool.false_eq_true, if_false]
    split <;> rw [e2]
  · have e3 := struck_other left e1
    simp only [e3, Function.comp]
    split <;> rfl
theorem part_none {keep : Int} {left : Lit → Bool} {es : List (Nm × Ent)} (h : ∀ kl, left kl = false) : part keep left es = mapv (truncE keep) es := by
  unfold part mapv
  refine List.map_congr_left fun x hx => ?_
  rw [h]; rfl
theorem part_all {keep : Int} {left : Lit → Bool} {es : List (Nm × Ent)} (h : ∀ x ∈ es, left (.string x.1) = true) : part keep left es = es := by
  unfold part
  conv => rhs; rw [← List.map_id es]
  refine List.map_congr_left fun x hx => ?_
  rw [h x hx]; rfl
theorem apart_part {keep : Int} {left : Lit → Bool} {es : List (Nm × Ent)} (h : Apart es) : Apart (part keep left es) := by
  refine List.pairwise_map.2 (h.imp fun {x y} hne => ?_)
  split <;> split <;> exact hne
theorem look_part {keep : Int} {left : Lit → Bool} {es : List (Nm × Ent)} {n : Nm} {e : Ent} (ha : Apart es) (hl : look n es = some e) (hk : left (.string n) = true) : look n (part keep left es) = some e :=
  look_of_mem (apart_part ha) (List.mem_map.2 ⟨_, look_mem hl, by rw [if_pos hk]⟩)
theorem sep_part {keep : Int} {left : Lit → Bool} {es : List (Nm × Ent)} (h : Sep es) : Sep (part keep left es) := by
  refine List.pairwise_map.2 (h.imp fun {x y} hne => ?_)
  have e1 : ∀ z : Nm × Ent, (if left (.string z.1) then z else (z.1, truncE keep z.2)).2.fb = z.2.fb := fun z => by split <;> rfl
  have e2 : ∀ z : Nm × Ent, (if left (.string z.1) then z else (z.1, truncE keep z.2)).2.v.ownBlock = z.2.v.ownBlock := fun z => by
    split
    · rfl
    · exact cutV_own _ _
  exact ⟨by rw [e1, e1]; exact hne.1, fun k => by rw [e2, e2]; exact hne.2 k⟩
theorem sep_of : ∀ {es : List (Nm × Ent)}, Sep es → ∀ {x y : Nm × Ent}, x ∈ es → y ∈ es → x.1 ≠ y.1 → Two x.2 y.2
  | [], _, _, _, hx, _, _ => by cases hx
  | a :: r, h, x, y, hx, hy, hne => by
    obtain ⟨h1, h2⟩ := List.pairwise_cons.1 h
    rcases List.mem_cons.1 hx with ex | hx'
    · rcases List.mem_cons.1 hy with ey | hy'
      · rw [ex, ey] at hne; exact (hne rfl).elim
      · rw [ex]; exact h1 y hy'
    · rcases List.mem_cons.1 hy with ey | hy'
      · rw [ey]; exact (h1 x hx').symm
      · exact sep_of h2 hx' hy' hne
/- One file's block is written, and no other's. -/
theorem ents_upd {w w' : World} {es : List (Nm × Ent)} {n : Nm} {e e' : Ent} {T : Nat → Prop} (hs : Sep es) (hE : ∀ x ∈ es, EntAt w x.2) (hl : look n es = some e) (hb : But T w w') (hT : ∀ k, k < w.heap.size → T k → k = e.fb ∨ e.v.ownBlock = some k) (he : EntAt w' e') :
    ∀ x ∈ upd n (fun _ => e') es, EntAt w' x.2 := by
  intro x hx
  obtain ⟨y, hy, rfl⟩ := List.mem_map.1 hx
  by_cases e1 : y.1 = n
  · rw [if_pos e1]; exact he
  · rw [if_neg e1]
    have hm := look_mem hl
    have htwo := sep_of hs hy hm e1
    have hEy := hE y hy
    have hEe := hE _ hm
    refine hEy.but hb (fun ht => ?_) (fun k hk ht => ?_)
    · rcases hT _ hEy.1.lt ht with h1 | h1
      · exact htwo.1 h1
      · exact own_blk_ne hEe.2 hEy.1 (by decide) h1
    · rcases hT k (hEy.2.lt k hk).2 ht with h1 | h1
      · subst h1
        exact own_blk_ne hEy.2 hEe.1 (by decide) hk
      · exact htwo.2 k hk h1
theorem good_crash {S : St} (h : Good S) (keep : Int) : Good (crash keep S) := by
  refine ⟨apart_mapv h.apart _, fun x hx => ?_, fun l k e => by cases e⟩
  obtain ⟨y, hy, rfl⟩ := List.mem_map.1 hx
  have h1 := h.synced y hy
  have h2 := cutTo_le (keep := keep) h1.1
  exact ⟨by show cutTo keep y.2 ≤ (y.2.bytes.take _).length; rw [List.length_take]; omega, bytes_take h1.2 _⟩
theorem tells_trunc {D : DataW Nat} {es : List (Nm × Ent)} (h : Tells D es) (keep : Int) : Tells D (mapv (truncE keep) es) := by
  refine ⟨fun x => ?_, fun x e hx z => ?_, by rw [length_mapv]; exact h.size⟩
  · rw [h.has, look_mapv, Option.isSome_map]
  · rw [look_mapv] at hx
    obtain ⟨e0, h0, rfl⟩ := Option.map_eq_some_iff.1 hx
    exact h.key x e0 h0 z
theorem part_full {keep : Int} {left : Lit → Bool} {es : List (Nm × Ent)} : (part keep left es).length = es.length := List.length_map _
theorem at_crash {w w' : World} {p mb : Nat} {S : St} {cr : Option Addr} {es : List (Nm × Ent)} {D : DataW Nat} {keep : Int} (h : At w p S mb cr es D)
    (hblk : Blk w' p 65 #[.map (some mb), .int .i64 S.cap, .int .i64 S.effects, .pointer cr, .bool true]) (hm : w'.ownsMap Try.prog 9 ptrElem mb es.length D) (hE : ∀ x ∈ mapv (truncE keep) es, EntAt w' x.2) (hsz : w.heap.size ≤ w'.heap.size) :
    At w' p (crash keep S) mb cr (mapv (truncE keep) es) D where
  blk := hblk
  map := by rw [length_mapv]; exact hm
  tells := tells_trunc h.tells keep
  plan := fun hd => by cases hd
  crlt := fun a ha => Nat.lt_of_lt_of_le (h.crlt a ha) hsz
  files := by
    show _ = mapv (trunc keep) S.files
    rw [← h.files, mapv_mapv, mapv_mapv]; rfl
  ents := hE
  sep := by
    have := sep_part (keep := keep) (left := fun _ => false) h.sep
    rwa [part_none (fun _ => rfl)] at this
  good := good_crash h.good keep
theorem cut_ent {w : World} {fb n : Nat} {v : Value} {bytes : List Int} {s0 : Nat} (hE : EntAt w ⟨fb, v, bytes, s0⟩) (hn : n ≤ bytes.length) :
    EntAt ((w.setCell ⟨fb, 1, none⟩ (.int .i64 (n : Int))).setCell ⟨fb, 0, none⟩ (cutV n v)) ⟨fb, cutV n v, bytes.take n, n⟩ := by
  have hb : But (fun k => k = fb) w ((w.setCell ⟨fb, 1, none⟩ (.int .i64 (n : Int))).setCell ⟨fb, 0, none⟩ (cutV n v)) := (but_set _ _ _ _).trans' (but_set _ _ _ _)
  refine ⟨(hE.1.set_ 1 _).set_ 0 _, ?_⟩
  have := own_cut (ownsRow_but hE.2 hb (fun k hk e => own_blk_ne hE.2 hE.1 (by decide) (e ▸ hk))) hn
  rw [List.length_take, Nat.min_eq_left hn]
  exact this
theorem But.grown {w w' : World} {b : Nat} (h : But (fun k => k = b) w w') : w.grownBy w' (some b) := ⟨h.os, h.tape, h.output, h.size, fun k hk hne => h.block k hk (fun e => hne (by rw [e]))⟩
/- What a round of goDown's loop leaves. -/
def DownRel (w W wr : World) (keep : Int) (es : List (Nm × Ent)) (D : DataW Nat) (mb : Nat) (w3 : World) : Prop :=
  (∃ left cnt, w3.ranges Try.prog 9 ptrElem mb W.heap.size es.length D left cnt ∧ (∀ x ∈ part keep left es, EntAt w3 x.2) ∧ But (fun k => ∃ x ∈ es, k = x.2.fb) W w3) ∧ w3.rangeLeft mb W.heap.size < wr.rangeLeft mb W.heap.size
theorem DownRel.drew {w W wr w3 : World} {keep : Int} {es : List (Nm × Ent)} {D : DataW Nat} {mb : Nat} (h : DownRel w W wr keep es D mb w3) : DownRel w W wr keep es D mb w3.drew := by
  obtain ⟨⟨left, cnt, h1, h2, h3⟩, h4⟩ := h
  exact ⟨⟨left, cnt, h1, h2, h3.drew⟩, h4⟩
set_option maxRecDepth 100000 in
set_option maxHeartbeats 2000000 in
theorem goDown_at {w : World} {p mb : Nat} {S : St} {cr : Option Addr} {es : List (Nm × Ent)} {D : DataW Nat} (h : At w p S mb cr es D) (keep : Int) (hk0 : 0 ≤ keep) (hk1 : keep ≤ 9223372036854775807) (hu : used S ≤ 1000000000) :
    Calls Try.prog 49 #[.pointer (some ⟨p, 0, none⟩), .int .i64 keep] w fun e w' => e = .returned (.tuple #[]) ∧ At w' p (crash keep S) mb cr (mapv (truncE keep) es) D ∧ But (foot p mb cr es) w w' := by
  have c0 : w.cell? ⟨p, 0, none⟩ = some (.map (some mb)) := h.blk.cell 0
  have c4 : w.cell? ⟨p, 4, none⟩ = some (.bool S.down) := h.blk.cell 4
  have f4 := h.blk.frozen 4
  have hap := h.apart
  have ht := h.tells
  have hblt := h.blk.lt
  obtain ⟨W, hW⟩ : ∃ W, W = w.setCell ⟨p, 4, none⟩ (.bool true) := ⟨_, rfl⟩
  have hbW : But (fun k => k = p) w W := hW ▸ but_set w p 4 _
  have hsW : W.heap.size = w.heap.size := by rw [hW]; simp
  have hm : W.ownsMap Try.prog 9 ptrElem mb es.length D := ownsMap_but h.map hbW (map_blk_ne h.map h.blk)
  have hBW : Blk W p 65 #[.map (some mb), .int .i64 S.cap, .int .i64 S.effects, .pointer cr, .bool true] := hW ▸ h.blk.set_ 4 _
  have c0W : W.cell? ⟨p, 0, none⟩ = some (.map (some mb)) := hBW.cell 0
  have hEW : ∀ x ∈ es, EntAt W x.2 := fun x hx => (h.ents x hx).but hbW (fun e => (h.ents x hx).1.ne_ h.blk (by decide) e) (fun k hk e => own_blk_ne (h.ents x hx).2 h.blk (by decide) (e ▸ hk))
  have HW := Lib.hid hW
  have HS := Lib.hid hsW
  clear hsW
  go_enter Try.func49, Try.ntmps49
  go_wp2_with (first | (at_range; rw [← hW]; clear hW c0 c4 f4; refine wpList_range_own _ rfl _ 62 rfl 9 66 law Try.underlying62 _ mb _ D rfl hm ?_; intro w0 hrg0 hg0 hs0))
  go_frame
  have hstart : part keep (Maps.has D) es = es := part_all (fun x hx => by rw [ht.has, look_of_mem hap hx]; rfl)
  have HST := Lib.hid hstart
  clear hs0 hstart
  go_loopw [5] (fun _ wr => ∃ left cnt, wr.ranges Try.prog 9 ptrElem mb W.heap.size es.length D left cnt ∧ (∀ x ∈ part keep left es, EntAt wr x.2) ∧ But (fun k => ∃ x ∈ es, k = x.2.fb) W wr) (fun _ wr => wr.rangeLeft mb W.heap.size)
  case atStart =>
    refine ⟨_, _, hrg0, ?_, (But.of_grown hg0).mono (fun i _ e => by cases e)⟩
    rw [HST.out]
    exact fun x hx => (hEW x hx).but (But.of_grown hg0) (fun e => by cases e) (fun k _ e => by cases e)
  case round =>
    obtain ⟨left, cnt, hrg, hE, hbu⟩ := hrel
    go_wp2_with (first | (at_next; refine wpList_next_files rfl _ rfl mb W.heap.size _ D left cnt es ht rfl hrg ?_ ?_))
    · intro hl0
      have hpn := part_none (keep := keep) (es := es) hl0
      rw [hpn] at hE
      clear hl0 hpn
      go_wp2
      go_end0
      refine ⟨rfl, at_crash h (hBW.but hbu ?_) hrg.owns hE (by rw [← HS.out]; exact hbu.size), ?_⟩
      · rintro ⟨x, hx, e⟩
        exact (hEW x hx).1.ne_ hBW (by decide) e.symm
      · refine (hbW.mono (T := foot p mb cr es) (fun i _ e => .inl e)).trans hbu (fun i _ e => ?_)
        obtain ⟨x, hx, e⟩ := e
        exact .inr (.inr (.inr ⟨x, hx, .inl e⟩))
    · intro x e w2 cnt2 hx hlk hrg2 hlt hg2 hen
      have hlp := look_part (keep := keep) hap hx hlk
      have hgo := h.ent (look_mem hx)
      have hlen : e.bytes.length ≤ 1000000000 := by
        have := total_le_of (f := fun e : Ent => e.bytes.length) (look_mem hx)
        rw [used_eq h] at this
        exact Nat.le_trans this hu
      have hlow : ∀ y ∈ part keep left es, y.2.fb < W.heap.size ∧ ∀ k, y.2.v.ownBlock = some k → k < W.heap.size := by
        intro y hy
        obtain ⟨z, hz, _, h2, h3⟩ := part_mem hy
        exact ⟨by rw [h2]; exact (hEW z hz).1.lt, fun k hk => ((hEW z hz).2.lt k (h3 ▸ hk)).2⟩
      have hE2 : ∀ y ∈ part keep left es, EntAt w2 y.2 := fun y hy => (hE y hy).but (But.of_grown hg2) (fun e => by injection e with e; have := (hlow y hy).1; omega) (fun k hk e => by injection e with e; have := (hlow y hy).2 k hk; omega)
      have hb2 : But (fun k => ∃ x ∈ es, k = x.2.fb) W w2 := hbu.trans (But.of_grown hg2) (fun i hi e => by injection e with e; omega)
      have hEe := hE2 _ (look_mem hlp)
      obtain ⟨fb, v, bytes, s0⟩ := e
      obtain ⟨a, cap, hv, _, _, hsh⟩ := own_shape hEe.2 hgo.2
      simp only at hv
      subst hv
      have k0 : w2.cell? ⟨fb, 0, none⟩ = some (.slice a bytes.length cap) := hEe.1.cell 0
      have k1 : w2.cell? ⟨fb, 1, none⟩ = some (.int .i64 s0) := hEe.1.cell 1
      have g0 := hEe.1.frozen 0
      have g1 := hEe.1.frozen 1
      simp only at g0 g1 hlen
      have hs0 : s0 ≤ bytes.length := hgo.1
      have hfin : ∀ (N : Int) (m : Nat), N = (cutTo keep ⟨bytes, s0⟩ : Nat) → m = cutTo keep ⟨bytes, s0⟩ → DownRel w W wr keep es D mb ((w2.setCell ⟨fb, 1, none⟩ (.int .i64 N)).setCell ⟨fb, 0, none⟩ (.slice a m cap)).drew.drew := by
        intro N m hN hm'
        subst hN hm'
        have hc : But (fun k => k = fb) w2 ((w2.setCell ⟨fb, 1, none⟩ (.int .i64 ((cutTo keep ⟨bytes, s0⟩ : Nat) : Int))).setCell ⟨fb, 0, none⟩ (.slice a (cutTo keep ⟨bytes, s0⟩) cap)) := (but_set _ _ _ _).trans' (but_set _ _ _ _)
        have hce := cut_ent (n := cutTo keep ⟨bytes, s0⟩) hEe (cutTo_le (f := ⟨bytes, s0⟩) hs0)
        refine DownRel.drew (DownRel.drew ?_)
        show DownRel w W wr keep es D mb ((w2.setCell ⟨fb, 1, none⟩ (.int .i64 ((cutTo keep ⟨bytes, s0⟩ : Nat) : Int))).setCell ⟨fb, 0, none⟩ (.slice a (cutTo keep ⟨bytes, s0⟩) cap))
        refine ⟨⟨_, cnt2, World.ranges.kept hrg2 (But.grown hc) ?_ ?_, ?_, hb2.trans hc (fun i hi e => ⟨_, look_mem hx, e⟩)⟩, ?_⟩
        · intro e
          injection e with e
          exact map_blk_ne hrg2.owns hEe.1 e
        · intro e
          injection e with e
          have := (hlow _ (look_mem hlp)).1
          simp only at this
          omega
        · rw [part_struck hap hx]
          exact ents_upd (sep_part h.sep) hE2 hlp hc (fun k _ e => .inl e) hce
        · rw [(World.ranges.kept hrg2 (But.grown hc) ?_ ?_).left_eq, hrg.left_eq]
          · exact hlt
          · intro e
            injection e with e
            exact map_blk_ne hrg2.owns hEe.1 e
          · intro e
            injection e with e
            have := (hlow _ (look_mem hlp)).1
            simp only at this
            omega
      have HF := Lib.hid hfin
      clear hfin hE2 hrg2 hb2 hEe hE hbu hg2 hlow hx hlp hrg0 hg0 hEW hBW hm c0W hbW hgo hlk
      rcases hsh with ⟨rfl, rfl, hn0⟩ | ⟨g, rfl, _, hglt, hlc, hcm⟩
      · have hbn : bytes = [] := List.eq_nil_of_length_eq_zero hn0
        subst hbn
        have hs00 : s0 = 0 := by simpa using hs0
        subst hs00
        by_cases hk : 0 < keep
        · skip
          go_wp2
          go_region
          go_wp2
          go_region
          go_roundw
          case rel =>
            repeat apply Exists.intro
            refine ⟨(HF.out _ _ ?_ ?_).1, rfl⟩ <;> (unfold cutTo; dsimp only [List.length_nil]; omega)
          case measure => refine (HF.out _ _ ?_ ?_).2 <;> (unfold cutTo; dsimp only [List.length_nil]; omega)
        · have hk00 : keep = 0 := by omega
          subst hk00
          go_wp2
          go_region
          go_wp2
          go_region
          go_roundw
          case rel =>
            repeat apply Exists.intro
            refine ⟨(HF.out _ _ ?_ ?_).1, rfl⟩ <;> (unfold cutTo; dsimp only [List.length_nil]; omega)
          case measure => refine (HF.out _ _ ?_ ?_).2 <;> (unfold cutTo; dsimp only [List.length_nil]; omega)
      · have hcm' : cap ≤ 9223372036854775807 := by simpa [maxLen] using hcm
        by_cases hk : (bytes.length : Int) - s0 < keep
        · have hq : (s0 : Int) + ((bytes.length : Int) - s0) = (bytes.length : Int) := by omega
          go_wp2
          go_region
          go_wp2
          go_region
          go_roundw
          case rel =>
            repeat apply Exists.intro
            refine ⟨(HF.out _ _ ?_ ?_).1, rfl⟩ <;> (unfold cutTo; dsimp only [List.length_nil]; omega)
          case measure => refine (HF.out _ _ ?_ ?_).2 <;> (unfold cutTo; dsimp only [List.length_nil]; omega)
        · skip
          go_wp2
          go_region
          go_wp2
          go_region
          go_roundw
          case rel =>
            repeat apply Exists.intro
            refine ⟨(HF.out _ _ ?_ ?_).1, rfl⟩ <;> (unfold cutTo; dsimp only [List.length_nil]; omega)
          case measure => refine (HF.out _ _ ?_ ?_).2 <;> (unfold cutTo; dsimp only [List.length_nil]; omega)
end Go.Proofs.Ytiaaadeenbjciaa.Disk
