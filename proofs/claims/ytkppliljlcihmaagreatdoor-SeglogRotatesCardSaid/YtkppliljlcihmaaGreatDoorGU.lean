/- In one text: A log's state, as plain lists: what a fresh disk's log is, and what an append makes of it where no crash is planned. A log as it is used, where no crash is planned: opened on a fresh disk; appended to; read. The head of the statements of layer 8: the document's example holds. What the law of segments knows at its loop's head: the log, and two maps of numbers. -/
import Derived.Test.YtkppliljlcihmaaGreatDoorGT
import Derived.Handy
import Derived.Test.YtkppliljlcihmaaGreatDoorSegTold
import Derived.Test.YtkppliljlcihmaaGreatDoorTornMore
namespace Go.Proofs.YtkppliljlcihmaaGreatDoor.Seg
open Go.Proofs.YtkppliljlcihmaaGreatDoor.Mem
open Go.Proofs.YtkppliljlcihmaaGreatDoor.Disk (Nm File St Eff Has grow errV used run tot sees ons)
open Go.Proofs.YtkppliljlcihmaaGreatDoor.Rec (Rcd Is okBody)
open Go.Proofs.YtkppliljlcihmaaGreatDoor.Frame (frm)
open Go.Proofs.YtkppliljlcihmaaGreatDoor.Torn (frames size scan total piecesOf frm_size frames_cons)
set_option linter.unusedVariables false

structure Lg (S : St) (cap : Int) (nums : List Nat) (base : Nat) (begun : Bool) (fr : Nat → List (List Rcd)) : Prop where
  up : Up cap S
  inv : Inv (vw S.files) nums base begun fr
  num : Nums nums
  ok : ∀ i ∈ nums, ∀ l ∈ fr i, okBody l ∧ ∀ r ∈ l, Is r
def szs (nums : List Nat) (fr : Nat → List (List Rcd)) : List Nat := nums.map fun i => (frames (fr i)).length
/- The row is done, where no crash is planned. -/
theorem deed_done {c : Int} {S : St} {xs : List Eff} (hU : Up c S) (hpl : S.plan = none) (hm : MaysV xs (vw S.files)) (hn : S.files.length + news xs < 1000) (hc : ((tot S.files + adds xs : Nat) : Int) ≤ c) {P : View → Prop} (hP : P (sees xs (vw S.files))) :
    ∃ T, run xs S = (0, T) ∧ Up c T ∧ P (vw T.files) ∧ T.plan = none ∧ T.files.length ≤ S.files.length + news xs ∧ tot T.files ≤ tot S.files + adds xs := by
  rcases deed hU hm hn hc hP (Q := fun _ => True) (fun _ _ _ _ => trivial) with ⟨T, h1, h2, h3, h4, h5, h6⟩ | ⟨T, _, h2, _⟩
  · exact ⟨T, h1, h2, h3, h4 hpl, h5, h6⟩
  · exact absurd hpl h2
theorem up_fresh (cap : Int) : Up cap (Disk.fresh cap) := ⟨rfl, rfl, List.Pairwise.nil, fun l k e => by cases e⟩
/- The log of a fresh disk. -/
theorem fresh_math {cap : Int} (hc : 100 ≤ cap) : ∃ T, run (rotA 1 (manFile [1] 0 false)) (Disk.fresh cap) = (0, T) ∧ Lg T cap [1] 0 false (fun _ => []) ∧ T.plan = none ∧ tot T.files ≤ 19 := by
  have hv : vw (Disk.fresh cap).files = fun _ => none := rfl
  have ha : adds (rotA 1 (manFile [1] 0 false)) = 19 := by rw [adds_rot, man_length]; rfl
  have hm : MaysV (rotA 1 (manFile [1] 0 false)) (vw (Disk.fresh cap).files) := by
    refine ⟨rfl, sw_mays ?_ _⟩
    rw [see_other (x := .new (seg 1)) (.inl rfl) (seg_t 1).symm]; rfl
  have h0 : tot (Disk.fresh cap).files = 0 := rfl
  obtain ⟨T, h1, h2, h3, h4, h5, h6⟩ := deed_done (up_fresh cap) rfl hm (by rw [news_rot]; show 0 + 2 < 1000; omega) (by rw [h0, ha]; omega) (P := fun v => Inv v [1] 0 false (fun _ => [])) (by
    refine ⟨by rw [rot_see, if_pos rfl], fun i hi => ?_, fun n hs => ?_⟩
    · rw [List.mem_singleton.1 hi, rot_see, if_neg (seg_m 1), if_neg (seg_t 1), if_pos rfl]; rfl
    · rw [rot_see] at hs
      by_cases q1 : n = nM
      · exact .inl q1
      · rw [if_neg q1] at hs
        by_cases q2 : n = nT
        · rw [if_pos q2] at hs; cases hs
        · rw [if_neg q2] at hs
          by_cases q3 : n = seg 1
          · exact .inr ⟨1, List.mem_singleton.2 rfl, q3⟩
          · rw [if_neg q3] at hs; cases hs)
  exact ⟨T, h1, ⟨h2, h3, ⟨List.pairwise_singleton _ _, fun i hi => by rw [List.mem_singleton.1 hi]; exact Nat.le_refl _, by simp⟩, fun i _ l hl => absurd hl List.not_mem_nil⟩, h4, by rw [h0, ha] at h6; omega⟩
/- Frames that are whole, and nothing behind them. -/
theorem scan_all {ls : List (List Rcd)} (h : ∀ l ∈ ls, okBody l ∧ ∀ r ∈ l, Is r) (at_ : Nat) {tail : List Int} (ht : Torn.one tail = none) : scan at_ (frames ls ++ tail) = piecesOf at_ ls ∧ total (scan at_ (frames ls ++ tail)) = (frames ls).length := by
  induction ls generalizing at_ with
  | nil =>
    have e : frames [] ++ tail = tail := rfl
    rw [e, Torn.scan_none ht]
    exact ⟨rfl, rfl⟩
  | cons l r ih =>
    obtain ⟨h1, h2⟩ := h l List.mem_cons_self
    obtain ⟨g1, g2⟩ := ih (fun m hm => h m (List.mem_cons_of_mem _ hm)) (at_ + size l)
    rw [frames_cons, List.append_assoc, Torn.scan_front h1 h2]
    refine ⟨by rw [g1]; rfl, ?_⟩
    rw [Torn.total_cons, g2, List.length_append, frm_size]
/- All names are told: nothing is deleted. -/
theorem untold_none {S : St} {nums : List Nat} {base : Nat} {begun : Bool} {fr : Nat → List (List Rcd)} (h : Inv (vw S.files) nums base begun fr) : untold nums (S.files.map (·.1)) = [] := by
  refine List.filter_eq_nil_iff.2 (fun n hn => ?_)
  have h1 := h.only n (look_names.1 hn)
  unfold toldBy
  have : n = nM ∨ n ∈ nums.map seg := by
    rcases h1 with h1 | ⟨i, hi, h1⟩
    · exact .inl h1
    · exact .inr (List.mem_map.2 ⟨i, hi, h1.symm⟩)
  rw [decide_eq_true this]
  decide
theorem names_short {S : St} {nums : List Nat} {base : Nat} {begun : Bool} {fr : Nat → List (List Rcd)} (h : Inv (vw S.files) nums base begun fr) (hi : ∀ i ∈ nums, i ≤ 100000) (ha : Disk.Apart S.files) : ∀ x ∈ S.files, x.1.length ≤ 1000000 := by
  intro x hx
  have h1 := h.only x.1 (look_names.1 (List.mem_map.2 ⟨x, hx, rfl⟩))
  rcases h1 with h1 | ⟨i, hi2, h1⟩
  · rw [h1]; decide
  · rw [h1]
    have := dec_len i
    have := hi i hi2
    unfold seg
    rw [List.length_cons]; omega
/- A frame is appended. -/
theorem append_math {S : St} {cap : Int} {nums : List Nat} {base : Nat} {begun : Bool} {fr : Nat → List (List Rcd)} (h : Lg S cap nums base begun fr) (hpl : S.plan = none) {i : Nat} (hi : nums.getLast? = some i) {l : List Rcd} (hl : okBody l) (his : ∀ r ∈ l, Is r) (hn : nums.length ≤ 900) (hc : ((tot S.files + (40 + size l) + 4 * nums.length : Nat) : Int) ≤ cap) (hf : fr (i + 1) = []) :
    (∃ T, run (apA i (frm (Rec.body l))) S = (0, T) ∧ Lg T cap nums base begun (bump fr i l) ∧ T.plan = none ∧ tot T.files ≤ tot S.files + (40 + size l) + 4 * nums.length) ∧
    (∃ T, run (rotA (i + 1) (manFile (nums ++ [i + 1]) base begun) ++ apA (i + 1) (frm (Rec.body l))) S = (0, T) ∧ Lg T cap (nums ++ [i + 1]) base begun (bump fr (i + 1) l) ∧ T.plan = none ∧ tot T.files ≤ tot S.files + (40 + size l) + 4 * nums.length) := by
  have hmem := last_mem hi
  have hfl : (frm (Rec.body l)).length = size l := frm_size l
  have hlen := h.inv.files h.up.apart
  have hmax : ∀ k ∈ nums, k ≤ i := by
    intro k hk
    obtain ⟨j, hj, rfl⟩ := List.getElem_of_mem hk
    have hil : nums[nums.length - 1]'(by omega) = i := by
      rw [List.getLast?_eq_getElem?, List.getElem?_eq_getElem (by omega)] at hi
      injection hi
    rcases Nat.lt_or_ge j (nums.length - 1) with h1 | h1
    · have := List.pairwise_iff_getElem.1 h.num.rising j (nums.length - 1) hj (by omega) h1
      omega
    · have : j = nums.length - 1 := by omega
      subst this
      omega
  have hbump : ∀ (ns : List Nat) (k : Nat), (∀ j ∈ ns, j ∈ nums ∨ j = i + 1) → (∀ j ∈ ns, ∀ m ∈ bump fr k l j, okBody m ∧ ∀ r ∈ m, Is r) := fun ns k hs j hj m hm => by
    unfold bump at hm
    have hfr : ∀ m ∈ fr j, okBody m ∧ ∀ r ∈ m, Is r := fun m hm => by
      rcases hs j hj with h1 | h1
      · exact h.ok j h1 m hm
      · rw [h1, hf] at hm; cases hm
    split at hm
    · rcases List.mem_append.1 hm with h1 | h1
      · exact hfr m h1
      · rw [List.mem_singleton.1 h1]; exact ⟨hl, his⟩
    · exact hfr m hm
  refine ⟨?_, ?_⟩
  · obtain ⟨T, h1, h2, h3, h4, h5, h6⟩ := deed_done h.up hpl (ap_mays h.inv hmem (frm (Rec.body l))) (by rw [news_ap]; omega) (by rw [adds_ap]; omega) (P := fun v => Inv v nums base begun (bump fr i l)) (add_inv h.inv hmem l)
    rw [adds_ap] at h6
    exact ⟨T, h1, ⟨h2, h3, h.num, hbump nums i (fun j hj => .inl hj)⟩, h4, by omega⟩
  · have hne : ∀ k ∈ nums, k ≠ i + 1 := fun k hk e => by have := hmax k hk; omega
    have hi1 : i + 1 ∈ nums ++ [i + 1] := List.mem_append_right _ (List.mem_singleton.2 rfl)
    have hr := rot_inv h.inv hne hf base begun
    have hmay : MaysV (rotA (i + 1) (manFile (nums ++ [i + 1]) base begun) ++ apA (i + 1) (frm (Rec.body l))) (vw S.files) := maysV_app.2 ⟨rot_mays h.inv hne _, ap_mays hr hi1 _⟩
    have hnw : news (rotA (i + 1) (manFile (nums ++ [i + 1]) base begun) ++ apA (i + 1) (frm (Rec.body l))) = 2 := by rw [news_app, news_rot, news_ap]
    have had : adds (rotA (i + 1) (manFile (nums ++ [i + 1]) base begun) ++ apA (i + 1) (frm (Rec.body l))) = 15 + 4 * (nums.length + 1) + (frm (Rec.body l)).length := by rw [adds_app, adds_rot, adds_ap, man_length, List.length_append, List.length_singleton]
    obtain ⟨T, h1, h2, h3, h4, h5, h6⟩ := deed_done h.up hpl hmay (by rw [hnw]; omega) (by rw [had]; omega) (P := fun v => Inv v (nums ++ [i + 1]) base begun (bump fr (i + 1) l)) (by rw [Disk.sees_app]; exact add_inv hr hi1 l)
    rw [had] at h6
    refine ⟨T, h1, ⟨h2, h3, ⟨?_, ?_, by simp⟩, hbump _ (i + 1) (fun j hj => ?_)⟩, h4, by omega⟩
    · refine List.pairwise_append.2 ⟨h.num.rising, List.pairwise_singleton _ _, fun a ha b hb => ?_⟩
      rw [List.mem_singleton.1 hb]
      have := hmax a ha; omega
    · intro j hj
      rcases List.mem_append.1 hj with h7 | h7
      · exact h.num.pos j h7
      · rw [List.mem_singleton.1 h7]; omega
    · rcases List.mem_append.1 hj with h7 | h7
      · exact .inl h7
      · exact .inr (List.mem_singleton.1 h7)
theorem szs_length (nums : List Nat) (fr : Nat → List (List Rcd)) : (szs nums fr).length = nums.length := List.length_map _
theorem szs_last {nums : List Nat} {fr : Nat → List (List Rcd)} {i : Nat} (hi : nums.getLast? = some i) (h : (szs nums fr).length - 1 < (szs nums fr).length) : (szs nums fr)[(szs nums fr).length - 1] = (frames (fr i)).length := by
  unfold szs at h ⊢
  rw [List.length_map] at h
  have hil : nums[nums.length - 1]'h = i := by
    rw [List.getLast?_eq_getElem?, List.getElem?_eq_getElem h] at hi
    injection hi
  simp only [List.length_map, List.getElem_map, hil]
theorem szs_more {nums : List Nat} {fr : Nat → List (List Rcd)} {k : Nat} {l : List Rcd} (hk : ∀ j ∈ nums, j ≠ k) (hf : fr k = []) : szs (nums ++ [k]) (bump fr k l) = szs nums fr ++ [size l] := by
  unfold szs
  rw [List.map_append, List.map_singleton, bump_same, hf]
  congr 1
  · refine List.map_congr_left (fun j hj => ?_)
    rw [bump_other fr l (hk j hj)]
  · show [(frames [l]).length] = [size l]
    rw [frames_cons]
    have : frames [] = [] := rfl
    rw [this, List.append_nil, frm_size]
theorem szs_bump {nums : List Nat} {fr : Nat → List (List Rcd)} {i : Nat} {l : List Rcd} (hr : nums.Pairwise (· < ·)) (hi : nums.getLast? = some i) : szs nums (bump fr i l) = (szs nums fr).set ((szs nums fr).length - 1) ((frames (fr i)).length + size l) := by
  have hn : 0 < nums.length := by
    rcases nums with _ | ⟨a, r⟩
    · cases hi
    · simp
  have hil : nums[nums.length - 1]'(by omega) = i := by
    rw [List.getLast?_eq_getElem?, List.getElem?_eq_getElem (by omega)] at hi
    injection hi
  refine List.ext_getElem (by rw [List.length_set, szs_length, szs_length]) (fun j h1 h2 => ?_)
  rw [szs_length] at h1
  have hl := szs_length nums fr
  rw [List.getElem_set]
  have eL : (szs nums (bump fr i l))[j]'(by rw [szs_length]; exact h1) = (frames (bump fr i l nums[j])).length := by unfold szs; rw [List.getElem_map]
  have eR : (szs nums fr)[j]'(by rw [szs_length]; exact h1) = (frames (fr nums[j])).length := by unfold szs; rw [List.getElem_map]
  rw [eL, eR]
  simp only [hl]
  by_cases hj : nums.length - 1 = j
  · subst hj
    rw [if_pos rfl, hil, bump_same, frames_add, List.length_append, frm_size]
  · rw [if_neg hj, bump_other]
    intro e
    have := List.pairwise_iff_getElem.1 hr j (nums.length - 1) h1 (by omega) (by omega)
    rw [hil, e] at this
    omega
theorem frames_bump (fr : Nat → List (List Rcd)) (i : Nat) (l : List Rcd) : (frames (bump fr i l i)).length = (frames (fr i)).length + size l := by
  rw [bump_same, frames_add, List.length_append, frm_size]
end Go.Proofs.YtkppliljlcihmaaGreatDoor.Seg
namespace Go.Proofs.YtkppliljlcihmaaGreatDoor.Seg
open Go.Proofs.YtkppliljlcihmaaGreatDoor.Mem
open Go.Proofs.YtkppliljlcihmaaGreatDoor.Disk (Nm File St Eff Has grow errV used run tot)
open Go.Proofs.YtkppliljlcihmaaGreatDoor.Rec (Rcd Recs Is okBody)
open Go.Proofs.YtkppliljlcihmaaGreatDoor.Frame (frm)
open Go.Proofs.YtkppliljlcihmaaGreatDoor.Torn (Gp gcells gpl Pcs frames size scan total piecesOf)
open Go.ChangeShapes Go.WideShapes Go.ChangeAt Go.RowKit
set_option linter.unusedVariables false
set_option linter.unusedSimpArgs false

section
variable {w w1 w2 W W' : World} {p lb g g1 g2 c : Nat} {S S1 S2 : St} {F F1 F2 : Nat → Prop} {limit : Int} {nums : List Nat} {base : Nat} {begun : Bool} {zs : List Nat} {vz vz1 vz2 : Value} {cap : Int} {fr : Nat → List (List Rcd)}
theorem dsk_fresh (cp : Int) (hc : cp ≤ 1000000) (w : World) :
    Calls Tryz.prog 6 #[.int .i64 cp] w fun e w' => ∃ p, e = .returned (.pointer (some ⟨p, 0, none⟩)) ∧ Dsk w' p (Disk.fresh cp) (grow (fun _ => False) w w') ∧ Below w.heap.size w w' := by
  refine (Disk.new_any cp w).mono ?_
  rintro e w' ⟨p, rfl, _, h1, h2⟩
  exact ⟨p, rfl, ⟨h1, ok_fresh hc⟩, h2.new⟩
/- A log opened on a fresh disk. -/
def FreshLog (w : World) (p : Nat) (F : Nat → Prop) (limit cap : Int) (e : Ending) (w' : World) : Prop :=
  ∃ T lb F1 g c vz ap cp aq cq, e = .returned (.tuple #[.pointer (some ⟨lb, 0, none⟩), .slice ap 0 cp, .slice aq 0 cq, .nilIface]) ∧ SysAt w' p lb T limit [1] 0 false (szs [1] (fun _ => [])) false F1 g c vz ∧ Lg T cap [1] 0 false (fun _ => []) ∧ T.plan = none ∧ tot T.files ≤ 19 ∧ (∀ k, foot lb g vz F1 k → grow F w w' k) ∧ But F w w'
theorem open_fresh (h : Dsk w p (Disk.fresh cap) F) (hc : 100 ≤ cap) (hl1 : 100 ≤ limit) (hl2 : limit ≤ 1073741824) :
    Calls Tryz.prog 7 #[.pointer (some ⟨p, 0, none⟩), .int .i64 limit] w (FreshLog w p F limit cap) := by
  obtain ⟨T, hT, hL, hpl, htot⟩ := fresh_math hc
  have cM := openManifest_first h rfl
  rw [hT] at cM
  have hun := untold_none hL.inv
  have hrG : run (goneN (untold [1] (T.files.map (·.1)))) T = (0, T) := by rw [hun]; rfl
  have hseg : Disk.look (seg 1) T.files = some ⟨[], 0⟩ := hL.inv.segs 1 (List.mem_singleton.2 rfl)
  have hto : totOf (⟨[], 0⟩ : File) = 0 := by unfold totOf; rw [Torn.scan_nil]; rfl
  have cO := open_any (fl := fun _ => ⟨[], 0⟩) (L := 1) h rfl hl1 hl2 cM (fun i hi => by rw [List.mem_singleton.1 hi]; omega) (by simp) rfl (List.pairwise_singleton _ _)
    (fun _ => names_short hL.inv (fun i hi => by rw [List.mem_singleton.1 hi]; omega) hL.up.apart)
    (fun _ _ => by
      show (run (goneN (untold [1] (T.files.map (·.1)))) T).2.down = false ∧ ∀ i ∈ [1], Disk.look (seg i) (run (goneN (untold [1] (T.files.map (·.1)))) T).2.files = some ⟨[], 0⟩ ∧ Bytes [] ∧ (i ≠ 1 → totOf ⟨[], 0⟩ = 0)
      rw [hrG]
      refine ⟨hL.up.up, fun i hi => ?_⟩
      rw [List.mem_singleton.1 hi]
      exact ⟨hseg, bytes_nil, fun h => absurd rfl h⟩)
  refine cO.mono ?_
  intro e w' hO
  unfold OpenAfter at hO
  simp only [if_true] at hO
  rw [hrG] at hO
  simp only [if_true, hto, List.length_nil, Nat.lt_irrefl, decide_false] at hO
  have hrC : run (opC false 1 0) T = (0, T) := rfl
  rw [hrC] at hO
  rcases hO with ⟨_, lb, F1, g, c, ap, cp, aq, cs, vz, gs, ss, he, hS, hft, hbt, _, _, _, hgs, hss⟩ | ⟨h0, _⟩
  · have hp0 : piecesIn (fun _ => (⟨[], 0⟩ : File)) [1] = [] := by unfold piecesIn; simp [Torn.scan_nil]
    have hs0 : spotsIn (fun _ => (⟨[], 0⟩ : File)) [1] = [] := by unfold spotsIn spotsOf; simp [Torn.scan_nil]
    rw [hp0] at hgs
    rw [hs0] at hss
    have hg0 : gs = [] := List.map_eq_nil_iff.1 hgs
    subst hg0 hss
    have hz : sizesIn (fun _ => (⟨[], 0⟩ : File)) [1] = szs [1] (fun _ => []) := by unfold sizesIn szs; simp [hto]; rfl
    rw [hz] at hS
    exact ⟨T, lb, F1, g, c, vz, ap, cp, aq, cs, he, hS, hL, hpl, htot, hft, hbt⟩
  · exact absurd rfl h0
/- An append that nothing comes in the way of. -/
def rot (limit : Int) (z len : Nat) : Prop := 0 < z ∧ limit < ((z + len : Nat) : Int)
instance (limit : Int) (z len : Nat) : Decidable (rot limit z len) := by unfold rot; infer_instance
def numsA (limit : Int) (nums : List Nat) (fr : Nat → List (List Rcd)) (i : Nat) (l : List Rcd) : List Nat := if rot limit (frames (fr i)).length (size l) then nums ++ [i + 1] else nums
def frA (limit : Int) (fr : Nat → List (List Rcd)) (i : Nat) (l : List Rcd) : Nat → List (List Rcd) := if rot limit (frames (fr i)).length (size l) then bump fr (i + 1) l else bump fr i l
def lastA (limit : Int) (fr : Nat → List (List Rcd)) (i : Nat) (l : List Rcd) : Nat := if rot limit (frames (fr i)).length (size l) then i + 1 else i
def atA (limit : Int) (fr : Nat → List (List Rcd)) (i : Nat) (l : List Rcd) : Nat := if rot limit (frames (fr i)).length (size l) then 0 else (frames (fr i)).length
def AppLog (w : World) (p lb g : Nat) (F : Nat → Prop) (limit : Int) (vz : Value) (cap : Int) (S : St) (nums : List Nat) (base : Nat) (begun : Bool) (fr : Nat → List (List Rcd)) (i : Nat) (l : List Rcd) (e : Ending) (w' : World) : Prop :=
  ∃ T F1 g1 c1 vz1, e = .returned (.tuple #[spV (lastA limit fr i l) (atA limit fr i l) (size l), .nilIface]) ∧ KeptG w w' lb g F F1 vz g1 vz1 ∧ SysAt w' p lb T limit (numsA limit nums fr i l) base begun (szs (numsA limit nums fr i l) (frA limit fr i l)) false F1 g1 c1 vz1 ∧ Lg T cap (numsA limit nums fr i l) base begun (frA limit fr i l) ∧ T.plan = none ∧ tot T.files ≤ tot S.files + (40 + size l) + 4 * nums.length ∧ (numsA limit nums fr i l).getLast? = some (lastA limit fr i l)
theorem append_log (h : SysAt w p lb S limit nums base begun (szs nums fr) false F g c vz) (hL : Lg S cap nums base begun fr) (hpl : S.plan = none) {i : Nat} (hi : nums.getLast? = some i) {a : Option Addr} {cp : Nat} {l : List Rcd} (hr : Recs w a l) (hll : l.length ≤ 1000000) (hl : okBody l) (hn : nums.length ≤ 90) (hi98 : i ≤ 98) (hc : ((tot S.files + (40 + size l) + 4 * nums.length : Nat) : Int) ≤ cap) (hcap : cap ≤ 1000000) (hf : fr (i + 1) = []) (hb : base < 4294967296) :
    Calls Tryz.prog 15 #[.pointer (some ⟨lb, 0, none⟩), .slice a l.length cp] w (AppLog w p lb g F limit vz cap S nums base begun fr i l) := by
  have hm := append_math hL hpl hi hl hr.1 (by omega) hc hf
  have hzl := szs_length nums fr
  have hn0 : 0 < nums.length := List.length_pos_iff.2 hL.num.some_
  have hmax : ∀ k ∈ nums, k ≤ i := by
    intro k hk
    obtain ⟨j, hj, rfl⟩ := List.getElem_of_mem hk
    have hil : nums[nums.length - 1]'(by omega) = i := by
      have hi' := hi
      rw [List.getLast?_eq_getElem?, List.getElem?_eq_getElem (by omega)] at hi'
      injection hi'
    rcases Nat.lt_or_ge j (nums.length - 1) with h1 | h1
    · have := List.pairwise_iff_getElem.1 hL.num.rising j (nums.length - 1) hj (by omega) h1
      omega
    · have : j = nums.length - 1 := by omega
      subst this
      omega
  have hne : ∀ k ∈ nums, k ≠ i + 1 := fun k hk e => by have := hmax k hk; omega
  have hzb : ∀ z ∈ szs nums fr, z ≤ 2000000000 := fun z hz => by
    obtain ⟨k, hk, rfl⟩ := List.mem_map.1 hz
    have h1 := hL.inv.segs k hk
    have h2 := Disk.total_le_of (f := fun e : File => e.bytes.length) (Disk.look_mem h1)
    have h3 := h.dsk.2.used
    have h4 : (full (frames (fr k))).bytes.length = (frames (fr k)).length := rfl
    unfold Disk.used at h3
    omega
  have hz0 : 0 < (szs nums fr).length := by omega
  have hlast := szs_last hi (Nat.sub_lt hz0 Nat.one_pos)
  have hzi : (frames (fr i)).length ≤ 2000000000 := by rw [← hlast]; exact hzb _ (List.getElem_mem _)
  have hsz : size l = (Rec.body l).length + 8 := rfl
  have hs20 := hl.2.2
  have hp := fun (W : World) (a' : Option Addr) (cap' : Nat) (hbW : Below w.heap.size w W) (hrW : Row W a' (size l) (frm (Rec.body l))) (hnW : a' = none → cap' = 0) (haW : ∀ q, a' = some q → 0 < size l → w.heap.size ≤ q.block) =>
    put_log (h.below hbW) hrW hnW (fun q hq h0 hft => by have h1 := haW q hq h0; have h2 := h.lt q.block hft; omega) (by omega) hi (by omega) (by omega) (fun j hj => by have := hmax j hj; omega) hb hL.inv.t hz0 (by omega) hzb
  simp only [hlast] at hp
  by_cases hro : rot limit (frames (fr i)).length (size l)
  · obtain ⟨T, hT, hLT, hplT, htT⟩ := hm.2
    have e1 : numsA limit nums fr i l = nums ++ [i + 1] := if_pos hro
    have e2 : frA limit fr i l = bump fr (i + 1) l := if_pos hro
    have e3 : lastA limit fr i l = i + 1 := if_pos hro
    have e4 : atA limit fr i l = 0 := if_pos hro
    have e5 := szs_more (l := l) hne hf
    have hro' : 0 < (frames (fr i)).length ∧ limit < (((frames (fr i)).length + size l : Nat) : Int) := hro
    have hp' : ∀ W a' cap', Below w.heap.size w W → Row W a' (size l) (frm (Rec.body l)) → (a' = none → cap' = 0) → (∀ q, a' = some q → 0 < size l → w.heap.size ≤ q.block) → Calls Tryz.prog 41 #[.pointer (some ⟨lb, 0, none⟩), .slice a' (size l) cap'] W (DoneAfter W p lb g F limit vz (0, T) (nums ++ [i + 1]) base begun (szs nums fr ++ [size l])) := fun W a' cap' q1 q2 q3 q4 => by
      have := hp W a' cap' q1 q2 q3 q4
      simp only [if_pos hro', hT] at this
      exact this
    have hl1 : (szs nums fr ++ [size l])[(szs nums fr ++ [size l]).length - 1]'(by simp) = 0 + size l := by simp
    refine (append_yes h hr hll hl rfl hsz hp' (by simp) (by simp; omega) (i1 := i + 1) (by simp) (by omega) (by simp; omega) hl1 (by omega)).mono ?_
    rintro e w' ⟨F1, g1, c1, vz1, hK, ⟨_, he, hS⟩ | ⟨h0, _⟩⟩
    · refine ⟨T, F1, g1, c1, vz1, by rw [e3, e4]; exact he, hK, by rw [e1, e2, e5]; exact hS, by rw [e1, e2]; exact hLT, hplT, htT, by rw [e1, e3]; simp⟩
    · exact absurd rfl h0
  · obtain ⟨T, hT, hLT, hplT, htT⟩ := hm.1
    have e1 : numsA limit nums fr i l = nums := if_neg hro
    have e2 : frA limit fr i l = bump fr i l := if_neg hro
    have e3 : lastA limit fr i l = i := if_neg hro
    have e4 : atA limit fr i l = (frames (fr i)).length := if_neg hro
    have e5 := szs_bump (fr := fr) (l := l) hL.num.rising hi
    have hro' : ¬ (0 < (frames (fr i)).length ∧ limit < (((frames (fr i)).length + size l : Nat) : Int)) := hro
    have hp' : ∀ W a' cap', Below w.heap.size w W → Row W a' (size l) (frm (Rec.body l)) → (a' = none → cap' = 0) → (∀ q, a' = some q → 0 < size l → w.heap.size ≤ q.block) → Calls Tryz.prog 41 #[.pointer (some ⟨lb, 0, none⟩), .slice a' (size l) cap'] W (DoneAfter W p lb g F limit vz (0, T) nums base begun ((szs nums fr).set ((szs nums fr).length - 1) ((frames (fr i)).length + size l))) := fun W a' cap' q1 q2 q3 q4 => by
      have := hp W a' cap' q1 q2 q3 q4
      simp only [if_neg hro', hT] at this
      exact this
    have hl1 : ((szs nums fr).set ((szs nums fr).length - 1) ((frames (fr i)).length + size l))[((szs nums fr).set ((szs nums fr).length - 1) ((frames (fr i)).length + size l)).length - 1]'(by simp; omega) = (frames (fr i)).length + size l := by simp
    refine (append_yes h hr hll hl rfl hsz hp' (by simp; omega) (by simp; omega) (i1 := i) hi (by omega) (by omega) hl1 (by omega)).mono ?_
    rintro e w' ⟨F1, g1, c1, vz1, hK, ⟨_, he, hS⟩ | ⟨h0, _⟩⟩
    · refine ⟨T, F1, g1, c1, vz1, by rw [e3, e4]; exact he, hK, by rw [e1, e2, e5]; exact hS, by rw [e1, e2]; exact hLT, hplT, htT, by rw [e1, e3]; exact hi⟩
    · exact absurd rfl h0
end
end Go.Proofs.YtkppliljlcihmaaGreatDoor.Seg
namespace Go.Proofs.YtkppliljlcihmaaGreatDoor.Seg
open Go.Proofs.YtkppliljlcihmaaGreatDoor.Mem
open Go.Proofs.YtkppliljlcihmaaGreatDoor.Disk (Nm File St Eff Has grow errV used run tot)
open Go.Proofs.YtkppliljlcihmaaGreatDoor.Rec (Rcd Recs Is okBody)
open Go.Proofs.YtkppliljlcihmaaGreatDoor.Frame (frm)
open Go.Proofs.YtkppliljlcihmaaGreatDoor.Torn (Gp gcells gpl Pcs frames size scan total piecesOf ex ex_ok ex_is ex_all ex_size)
open Go.ChangeShapes Go.WideShapes Go.ChangeAt Go.RowKit
set_option linter.unusedVariables false
set_option linter.unusedSimpArgs false

section
variable {w w1 w2 W W' : World}
theorem open_low (a : Value) (limit : Int) (hl : limit < 100) (w : World) :
    Calls Tryz.prog 7 #[a, .int .i64 limit] w fun e w' => e = .returned (.tuple #[.pointer none, .slice none 0 0, .slice none 0 0, .iface 33 (.int .i64 1)]) ∧ w = w' := by
  have t1 : decide (limit < 100) = true := decide_eq_true (by omega)
  clear hl
  go_enter Tryz.func7, Tryz.ntmps7
  go_wp2_with fail
  go_returns
  exact ⟨rfl, rfl⟩
theorem drop_one (w : World) :
    Calls Tryz.prog 20 #[.int .u32 1] w fun e w' => ∃ a cap, e = .returned (.slice a 1 cap) ∧ Recs w' a [ex] ∧ Below w.heap.size w w' := by
  go_enter Tryz.func20, Tryz.ntmps20
  go_wp2_with fail
  go_ret
  refine ⟨_, _, rfl, ⟨ex_all, fun _ => ⟨_, _, rfl, by simp, fun i hi j u hu => ?_⟩⟩, (Below.refl _ w).alloc (Nat.le_refl _) _⟩
  have hi0 : i = 0 := by have : i < 1 := hi; omega
  subst hi0
  simp only [Nat.zero_mul, Nat.zero_add]
  rw [World.cell?_alloc_mark]
  exact hu
/- All blocks of a log lie at B or above it: so they do behind a step. -/
theorem mine_kept {B lb g g1 : Nat} {F F1 : Nat → Prop} {vz vz1 : Value} (h : KeptG w w1 lb g F F1 vz g1 vz1) (hm : ∀ k, foot lb g vz F k → B ≤ k) (hB : B ≤ w.heap.size) : Below B w w1 ∧ ∀ k, foot lb g1 vz1 F1 k → B ≤ k := by
  refine ⟨h.but.below hB (fun k hk => hm k ?_), fun k hk => ?_⟩
  · rcases hk with h1 | h1 | h1
    · exact .inl h1
    · exact .inr (.inl h1)
    · exact .inr (.inr (.inr h1))
  · rcases hk with h1 | h1 | h1 | h1
    · rcases h.sub k h1 with h2 | h2
      · exact hm k (.inl h2)
      · omega
    · exact hm k (.inr (.inl h1))
    · rcases h.gs with h2 | h2
      · exact hm k (.inr (.inr (.inl (h1.trans h2))))
      · omega
    · rcases h.own k h1 with h2 | h2
      · exact hm k (.inr (.inr (.inr h2)))
      · omega
theorem ex_frames : frames [[ex]] = frm (Rec.body [ex]) := by simp [frames]
set_option maxRecDepth 100000 in
set_option maxHeartbeats 2000000 in
theorem up_any (w : World) :
    Calls Tryz.prog 5 #[] w fun e w' => e = .returned (.bool true) ∧ Below w.heap.size w w' := by
  go_enter Tryz.func5, Tryz.ntmps5
  go_wp2_with fail
  refine (dsk_fresh 1000 (by omega) _).mono ?_
  rintro e w1 ⟨p, rfl, hD, hB1⟩
  have c2 := open_fresh hD (limit := 100) (by omega) (by omega) (by omega)
  have HB1 := Lib.hid hB1
  clear hD hB1
  go_wp2_with fail
  refine c2.mono ?_
  clear c2
  rintro e w2 ⟨T, lb, F1, g, c, vz, ap, cp, aq, cq, rfl, hS, hL, hpl, htot, hft, hbt⟩
  have HM2 := Lib.hid (show ∀ k, foot lb g vz F1 k → w.heap.size ≤ k from fun k hk => by
    have hz := HB1.out.size
    rcases hft k hk with (h1 | h1) | h1
    · exact h1.elim
    · exact h1.1
    · omega)
  have hB2 := hbt.below HB1.out.size (fun k hk => hk.elim (fun h => h.elim) (fun h => h.1))
  have HB2 := Lib.hid (HB1.out.trans hB2)
  have HS2 := Lib.hid (And.intro hS (And.intro hL (And.intro hpl htot)))
  clear hS hL hpl htot hft hbt hB2 HB1
  go_wp2_with fail
  refine (open_low _ 99 (by omega) _).mono ?_
  rintro e w' ⟨rfl, rfl⟩
  go_wp2_with fail
  refine (drop_one _).mono ?_
  rintro e w3 ⟨a, cap, rfl, hr3, hb3⟩
  have hS3 := HS2.out.1.below hb3
  have c4 := append_log hS3 HS2.out.2.1 HS2.out.2.2.1 (i := 1) rfl (cp := cap) hr3 (by simp) ex_ok (by simp) (by omega) (by have := HS2.out.2.2.2; have := ex_size; simp; omega) (by omega) rfl (by omega)
  have HB3 := Lib.hid (HB2.out.trans (hb3.mono HB2.out.size))
  clear hr3 hb3 hS3
  go_wp2_with fail
  refine c4.mono ?_
  clear c4
  have hro : ¬ rot 100 (frames []).length (size [ex]) := fun h => absurd h.1 (by simp [frames])
  rintro e w4 ⟨T4, F4, g4, c4, vz4, rfl, hK4, hS4, hL4, hpl4, htot4, -⟩
  have e1 : numsA 100 [1] (fun _ => []) 1 [ex] = [1] := if_neg hro
  have e2 : frA 100 (fun _ => []) 1 [ex] = bump (fun _ => []) 1 [ex] := if_neg hro
  have e3 : lastA 100 (fun _ => []) 1 [ex] = 1 := if_neg hro
  have e4 : atA 100 (fun _ => []) 1 [ex] = 0 := by unfold atA; rw [if_neg hro]; rfl
  rw [e1, e2] at hS4 hL4
  rw [e3, e4, ex_size]
  unfold spV
  have hb4 := mine_kept hK4 HM2.out HB3.out.size
  have HB4 := Lib.hid (HB3.out.trans hb4.1)
  have HS4 := Lib.hid (And.intro hS4 hL4)
  clear hro e1 e2 e3 e4 hS4 hL4 hpl4 htot4 hK4 hb4
  go_wp2_with fail
  have hbx := (Below.refl _ w4).alloc (Nat.le_refl _) (.cells #[.int .i64 1, .int .i64 0, .int .i64 14] 47)
  have hlk : Disk.look (seg 1) T4.files = some (full (frames [[ex]])) := HS4.out.2.inv.segs 1 (List.mem_singleton.2 rfl)
  have hfl : (full (frames [[ex]])).bytes.length = 14 := by show (frames [[ex]]).length = 14; rw [ex_frames, Torn.frm_size, ex_size]
  have hsc : scan 0 (((full (frames [[ex]])).bytes.drop 0).take 14) = [⟨0, 14, [ex]⟩] := by
    show scan 0 (((frames [[ex]]).drop 0).take 14) = _
    have hfl2 : (frames [[ex]]).length = 14 := hfl
    rw [List.drop_zero, List.take_of_length_le (Nat.le_of_eq hfl2)]
    have h1 := (scan_all (ls := [[ex]]) (tail := []) (fun l hl => by rw [List.mem_singleton.1 hl]; exact ⟨ex_ok, ex_all⟩) 0 Torn.one_nil).1
    rw [List.append_nil] at h1
    rw [h1]
    show [(⟨0, size [ex], [ex]⟩ : Torn.Pc)] = _
    rw [ex_size]
  have c5 := read_log (i := 1) (at_ := 0) (len := 14) (HS4.out.1.below hbx) HS4.out.2.up.up (List.mem_singleton.2 rfl) (by omega) (by simp) hlk (by rw [hfl]; omega) hsc
  unfold spV at c5
  have HB5 := Lib.hid (HB4.out.trans (hbx.mono HB4.out.size))
  have HS5 := Lib.hid (HS4.out.1.below hbx)
  obtain ⟨W, hW⟩ : ∃ W, W = w4.alloc (.cells #[.int .i64 1, .int .i64 0, .int .i64 14] 47) := ⟨_, rfl⟩
  rw [← hW] at c5 HB5 HS5 ⊢
  clear hbx hlk hfl hsc hW HB4 HS4
  refine c5.mono ?_
  clear c5
  rintro e w5 ⟨a5, cap5, rfl, -, hb5⟩
  have HS6 := Lib.hid (HS5.out.below hb5)
  have HB6 := Lib.hid (HB5.out.trans (hb5.mono HB5.out.size))
  have HBY := Lib.hid (bytes_log HS6.out Nat.one_pos (by rw [szs_length]; simp) (fun z hz => by rw [List.mem_singleton.1 (show z ∈ [(frames [[ex]]).length] from hz), ex_frames, Torn.frm_size, ex_size]; omega))
  have HSG := Lib.hid (segments_log HS6.out (by simp))
  have hsum : (szs [1] (bump (fun _ => []) 1 [ex])).sum = 14 := by
    show (frames [[ex]]).length + 0 = 14
    rw [ex_frames, Torn.frm_size, ex_size]
  rw [hsum] at HBY
  have q1 := Err.code_eql 1 1 w5
  clear hsum HB5 HS5 hb5
  go_wp2_with fail
  refine HBY.out.mono ?_
  rintro e w' ⟨rfl, rfl⟩
  have e14 : ((14 : Nat) : Int) = 14 := rfl
  rw [e14]
  go_wp2_with fail
  refine HSG.out.mono ?_
  rintro e w6 ⟨v6, rfl, ho6, hb6⟩
  obtain ⟨g6, c6, rfl⟩ : ∃ g6 c6, v6 = .slice (some ⟨g6, 0, none⟩) 1 c6 := by
    rcases ho6.2 with ⟨_, h2⟩ | ⟨gz, cz, _, h2, _⟩
    · cases h2
    · exact ⟨gz, cz, h2⟩
  have HB7 := Lib.hid (HB6.out.trans (hb6.mono HB6.out.size))
  clear ho6 hb6 q1 HBY HSG
  go_wp2_with fail
  go_ret
  exact ⟨rfl, HB7.out⟩
end
end Go.Proofs.YtkppliljlcihmaaGreatDoor.Seg
namespace Go.Proofs.YtkppliljlcihmaaGreatDoor.Seg
open Go.Proofs.YtkppliljlcihmaaGreatDoor.Mem
open Go.Proofs.YtkppliljlcihmaaGreatDoor.Disk (Nm File St Eff Has grow errV used run tot)
open Go.Proofs.YtkppliljlcihmaaGreatDoor.Rec (Rcd Recs Is okBody)
open Go.Proofs.YtkppliljlcihmaaGreatDoor.Frame (frm)
open Go.Proofs.YtkppliljlcihmaaGreatDoor.Torn (frames size frm_size frames_cons)
open Go.ChangeShapes Go.WideShapes Go.ChangeAt Go.RowKit
set_option linter.unusedVariables false
set_option linter.unusedSimpArgs false

theorem lawI : Maps.Keyed Tryz.prog 3 := Maps.int_keyed Tryz.underlying3
theorem wf_nat {n : Nat} (h : n < 9223372036854775808) : (Lit.int .i64 (n : Int)).wf = true := WalkArith.wf_i64 (by omega)
theorem keyI {n : Nat} (h : n < 9223372036854775808) : keyOf Tryz.prog 3 (.int .i64 (n : Int)) = some (.int .i64 (n : Int)) := Maps.keyOf_int_mk Tryz.underlying3 (wf_nat h)
/- A map of numbers by numbers; what it lacks reads as 0. -/
structure Tell (D : DataW Nat) (f : Nat → Nat) : Prop where
  map : Maps.IsMap D
  at_ : ∀ j : Nat, D.atKey (.int .i64 (j : Int)) (.lit (.int .i64 0)) = .lit (.int .i64 ((f j : Nat) : Int))
theorem tell_first : Tell (.map []) (fun _ => 0) := ⟨Maps.isMap_empty, fun _ => rfl⟩
theorem Tell.put {D : DataW Nat} {f : Nat → Nat} (h : Tell D f) (i n : Nat) : Tell (D.put (.int .i64 (i : Int)) (.lit (.int .i64 (n : Int)))) (fun j => if j = i then n else f j) := by
  refine ⟨h.map.put _ _, fun j => ?_⟩
  by_cases hj : j = i
  · subst hj
    rw [Maps.atKey_put_same (k := .int .i64 (j : Int)) h.map trivial]
    simp
  · have hne : (Lit.int .i64 (j : Int)) ≠ .int .i64 (i : Int) := fun e => hj (by injection e with _ e; omega)
    rw [Maps.atKey_put_other hne, h.at_]
    simp [hj]
theorem Tell.congr {D : DataW Nat} {f f' : Nat → Nat} (h : Tell D f) (e : ∀ j, f' j = f j) : Tell D f' := ⟨h.map, fun j => by rw [e]; exact h.at_ j⟩
set_option maxRecDepth 100000 in
theorem look_nat {w : World} {b n : Nat} {D : DataW Nat} {f : Nat → Nat} (h : w.ownsMap Tryz.prog 3 inM b n D) (ht : Tell D f) (j : Nat) (hj : j < 9223372036854775808) : (Instr.lookup 59 (.map (some b)) (.int .i64 (j : Int)) false).run Tryz.prog w = .ok (.int .i64 ((f j : Nat) : Int)) w := by
  obtain ⟨v, ps, hrun, hv⟩ := h.lookup lawI Tryz.underlying59 (z := .int .i64 0) (show (zeroValue 3).run Tryz.prog w = .ok (.int .i64 0) w by kernel_rfl) (zd := .lit (.int .i64 0)) (zp := []) rfl (keyI hj)
  obtain ⟨a, rfl⟩ := inM_inv hv
  rw [ht.at_] at hv
  injection hv with hv
  injection hv with hv _
  injection hv with hv
  injection hv with _ hv
  rw [hrun, hv]
section
variable {limit : Int} {n : Nat} {fr : Nat → List (List Rcd)} {l : List Rcd}
/- Behind an append: where it went, and what is there. -/
theorem rise_succ (n : Nat) : List.range' 1 n ++ [n + 1] = List.range' 1 (n + 1) := by
  rw [List.range'_concat]; simp [Nat.add_comm]
theorem last_pos (h : 1 ≤ n) : 1 ≤ lastA limit fr n l ∧ lastA limit fr n l ≤ n + 1 ∧ n ≤ lastA limit fr n l := by
  unfold lastA
  split <;> omega
theorem nums_rise : numsA limit (List.range' 1 n) fr n l = List.range' 1 (lastA limit fr n l) := by
  unfold numsA lastA
  split
  · exact rise_succ n
  · rfl
theorem at_is (hoff : fr (n + 1) = []) : atA limit fr n l = (frames (fr (lastA limit fr n l))).length := by
  unfold atA lastA
  split
  · rw [hoff]; rfl
  · rfl
theorem fr_is : frA limit fr n l = bump fr (lastA limit fr n l) l := by
  unfold frA lastA
  split <;> rfl
theorem frames_zero (ls : List (List Rcd)) (h : (frames ls).length = 0) : ls = [] := by
  cases ls with
  | nil => rfl
  | cons l r =>
    rw [frames_cons, List.length_append, frm_size] at h
    unfold size at h
    omega
theorem fits_is (hoff : fr (n + 1) = []) (h : ∀ j, ((frames (fr j)).length : Int) ≤ limit ∨ (fr j).length ≤ 1) : ∀ j, ((frames (frA limit fr n l j)).length : Int) ≤ limit ∨ (frA limit fr n l j).length ≤ 1 := by
  intro j
  by_cases hj : j = lastA limit fr n l
  · subst hj
    rw [fr_is, frames_bump, bump_same]
    unfold lastA
    by_cases hr : rot limit (frames (fr n)).length (size l)
    · rw [if_pos hr, hoff]
      exact .inr (Nat.le_refl _)
    · rw [if_neg hr]
      unfold rot at hr
      rcases Nat.eq_zero_or_pos (frames (fr n)).length with h0 | h0
      · rw [frames_zero _ h0]
        exact .inr (Nat.le_refl _)
      · exact .inl (by omega)
  · rw [fr_is, bump_other fr l hj]
    exact h j
end
/- The loop's head. -/
structure Rot (w wr : World) (p lb : Nat) (limit : Int) (k n : Nat) (fr : Nat → List (List Rcd)) (T : St) (F : Nat → Prop) (g c : Nat) (vz : Value) (mS mM : Nat) (D1 D2 : DataW Nat) : Prop where
  sys : SysAt wr p lb T limit (List.range' 1 n) 0 false (szs (List.range' 1 n) fr) false F g c vz
  lg : Lg T 1000000 (List.range' 1 n) 0 false fr
  pl : T.plan = none
  tot : tot T.files ≤ 19 + k * 20300
  n1 : 1 ≤ n
  nk : n ≤ k + 1
  off : ∀ j, n < j → fr j = []
  mine : ∀ q, foot lb g vz F q → w.heap.size ≤ q
  below : Below w.heap.size w wr
  m1 : wr.ownsMap Tryz.prog 3 inM mS k D1
  m2 : wr.ownsMap Tryz.prog 3 inM mM k D2
  t1 : Tell D1 (fun j => (frames (fr j)).length)
  t2 : Tell D2 (fun j => (fr j).length)
  ne : mS ≠ mM
  b1 : w.heap.size ≤ mS
  b2 : w.heap.size ≤ mM
  f1 : ¬ foot lb g vz F mS
  f2 : ¬ foot lb g vz F mM
  ok : ∀ j, ((frames (fr j)).length : Int) ≤ limit ∨ (fr j).length ≤ 1
section
variable {w w1 w2 wr : World} {p lb g g1 c c1 k n mS mM : Nat} {T T1 : St} {F F1 : Nat → Prop} {limit : Int} {fr : Nat → List (List Rcd)} {vz vz1 : Value} {D1 D2 : DataW Nat} {l : List Rcd}
set_option maxRecDepth 100000 in
theorem Rot.keep (h : Rot w wr p lb limit k n fr T F g c vz mS mM D1 D2) (hb : Below wr.heap.size wr w1) : Rot w w1 p lb limit (k + 1) n fr T F g c vz mS mM D1 D2 :=
  { h with
    sys := h.sys.below hb
    tot := by have := h.tot; omega
    nk := by have := h.nk; omega
    below := h.below.trans (hb.mono (h.below.size))
    m1 := (Disk.ownsMap_but h.m1 (But.of_new hb (S := fun _ => False)) (fun e => e)).mono (by omega)
    m2 := (Disk.ownsMap_but h.m2 (But.of_new hb (S := fun _ => False)) (fun e => e)).mono (by omega) }
theorem last_range (h : 1 ≤ n) : (List.range' 1 n).getLast? = some n := by
  obtain ⟨m, rfl⟩ : ∃ m, n = m + 1 := ⟨n - 1, by omega⟩
  rw [← rise_succ]; simp
theorem Rot.append (h : Rot w wr p lb limit k n fr T F g c vz mS mM D1 D2) (hk : k < 40) {a : Option Addr} {cp : Nat} (hr : Recs wr a l) (hll : l.length ≤ 1000000) (hl : okBody l) :
    Calls Tryz.prog 15 #[.pointer (some ⟨lb, 0, none⟩), .slice a l.length cp] wr (AppLog wr p lb g F limit vz 1000000 T (List.range' 1 n) 0 false fr n l) := by
  have h1 := h.n1
  have h2 := h.nk
  have h3 := h.tot
  have h4 := hl.2.2
  have h5 : size l = (Rec.body l).length + 8 := rfl
  exact append_log h.sys h.lg h.pl (last_range h1) hr hll hl (by simp; omega) (by omega) (by rw [List.length_range']; omega) (by omega) (h.off _ (by omega)) (by omega)
theorem not_kept {q : Nat} (hK : KeptG wr w2 lb g F F1 vz g1 vz1) (hf : ¬ foot lb g vz F q) (hq : q < wr.heap.size) : ¬ foot lb g1 vz1 F1 q := by
  rintro (h1 | h1 | h1 | h1)
  · rcases hK.sub q h1 with h2 | h2
    · exact hf (.inl h2)
    · omega
  · exact hf (.inr (.inl h1))
  · rcases hK.gs with h2 | h2
    · exact hf (.inr (.inr (.inl (h1.trans h2))))
    · omega
  · rcases hK.own q h1 with h2 | h2
    · exact hf (.inr (.inr (.inr h2)))
    · omega
theorem Rot.mid (h : Rot w wr p lb limit k n fr T F g c vz mS mM D1 D2) (hK : KeptG wr w2 lb g F F1 vz g1 vz1) :
    w2.ownsMap Tryz.prog 3 inM mS k D1 ∧ w2.ownsMap Tryz.prog 3 inM mM k D2 ∧ Below w.heap.size w w2 := by
  have hnot : ∀ q, ¬ foot lb g vz F q → ¬ (F q ∨ q = lb ∨ vz.ownBlock = some q) := fun q hf hq => by
    rcases hq with h1 | h1 | h1
    · exact hf (.inl h1)
    · exact hf (.inr (.inl h1))
    · exact hf (.inr (.inr (.inr h1)))
  exact ⟨Disk.ownsMap_but h.m1 hK.but (hnot _ h.f1), Disk.ownsMap_but h.m2 hK.but (hnot _ h.f2), h.below.trans (mine_kept hK h.mine h.below.size).1⟩
set_option maxRecDepth 100000 in
theorem Rot.step {w5 : World} {D1' D2' : DataW Nat} (h : Rot w wr p lb limit k n fr T F g c vz mS mM D1 D2) (hl : okBody l) (hk : k < 40) (hK : KeptG wr w2 lb g F F1 vz g1 vz1) (hS : SysAt w2 p lb T1 limit (numsA limit (List.range' 1 n) fr n l) 0 false (szs (numsA limit (List.range' 1 n) fr n l) (frA limit fr n l)) false F1 g1 c1 vz1) (hL : Lg T1 1000000 (numsA limit (List.range' 1 n) fr n l) 0 false (frA limit fr n l)) (hpl : T1.plan = none) (htot : Disk.tot T1.files ≤ Disk.tot T.files + (40 + size l) + 4 * (List.range' 1 n).length)
    (hb : But (fun q => q = mS ∨ q = mM) w2 w5) (m1 : w5.ownsMap Tryz.prog 3 inM mS (k + 1) D1') (m2 : w5.ownsMap Tryz.prog 3 inM mM (k + 1) D2')
    (e1 : D1' = D1.put (.int .i64 (lastA limit fr n l : Int)) (.lit (.int .i64 ((atA limit fr n l + size l : Nat) : Int)))) (e2 : D2' = D2.put (.int .i64 (lastA limit fr n l : Int)) (.lit (.int .i64 (((fr (lastA limit fr n l)).length + 1 : Nat) : Int)))) :
    Rot w w5 p lb limit (k + 1) (lastA limit fr n l) (frA limit fr n l) T1 F1 g1 c1 vz1 mS mM D1' D2' := by
  have h1 := h.n1
  have h2 := h.nk
  have h3 := h.tot
  have h4 := hl.2.2
  have h5 : size l = (Rec.body l).length + 8 := rfl
  have hoff : fr (n + 1) = [] := h.off _ (by omega)
  obtain ⟨q1, q2, q3⟩ := last_pos (limit := limit) (fr := fr) (l := l) h1
  rw [nums_rise] at hS hL
  have hmm := mine_kept hK h.mine h.below.size
  have hf1 := not_kept hK h.f1 h.m1.lt
  have hf2 := not_kept hK h.f2 h.m2.lt
  have hbb : Below w.heap.size w w5 := (h.below.trans hmm.1).trans (hb.below (Nat.le_trans h.below.size hK.but.size) (fun q hq => by
    rcases hq with rfl | rfl
    · exact h.b1
    · exact h.b2))
  refine ⟨hS.but_ hb (fun q hq he => ?_), hL, hpl, ?_, q1, by omega, fun j hj => ?_, hmm.2, hbb, m1, m2, ?_, ?_, h.ne, h.b1, h.b2, hf1, hf2, fits_is hoff h.ok⟩
  · rcases he with rfl | rfl
    · exact hf1 hq
    · exact hf2 hq
  · rw [List.length_range'] at htot; omega
  · rw [fr_is, bump_other fr l (by omega)]
    exact h.off j (by omega)
  · rw [e1, at_is hoff]
    refine (h.t1.put _ _).congr (fun j => ?_)
    by_cases hj : j = lastA limit fr n l
    · rw [if_pos hj, hj, fr_is, frames_bump]
    · rw [if_neg hj, fr_is, bump_other fr l hj]
  · rw [e2]
    refine (h.t2.put _ _).congr (fun j => ?_)
    by_cases hj : j = lastA limit fr n l
    · rw [if_pos hj, hj, fr_is, bump_same]; simp
    · rw [if_neg hj, fr_is, bump_other fr l hj]
end
end Go.Proofs.YtkppliljlcihmaaGreatDoor.Seg
