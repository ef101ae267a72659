/- In one text: Rows of effects on a disk: what they come to if all are done, and what is left if the disk goes down at one of them. A log in segments, on a disk by plain names: what its files are while it is open, what a disk is that such a log can be opened from, and that each effect of what is done with it leaves the one or the other. What is done with a log, effect by effect: behind all of them its files are as they should be; behind some of them, and a crash, the disk is one that the log, or the one that was to come, can be opened from. A log is opened, effect by effect; and that each effect may be done. Deeds on a disk: that each effect may be done, and what the disk is behind them, or behind a crash in them. What a log's manifest tells: of any bytes, and of those that were written. -/
import Derived.Test.YtkppliljlcihmaaGreatDoorDiskMath
import Derived.Test.YtkppliljlcihmaaGreatDoorTornMore
namespace Go.Proofs.YtkppliljlcihmaaGreatDoor.Disk
open Go.Proofs.YtkppliljlcihmaaGreatDoor.Mem Go.RowKit
set_option linter.unusedVariables false

abbrev Fs := List (Nm × File)
inductive Eff where
  | new (n : Nm)
  | add (n : Nm) (b : List Int)
  | syn (n : Nm)
  | short (n : Nm) (k : Nat)
  | move (n m : Nm)
  | gone (n : Nm)
def Eff.call : Eff → St → Int × St
  | .new n, S => create S n
  | .add n b, S => append S n b
  | .syn n, S => sync S n
  | .short n k, S => cut S n (k : Int)
  | .move n m, S => rename S n m
  | .gone n, S => delete S n
/- What it makes of the files. -/
def Eff.on : Eff → Fs → Fs
  | .new n, l => ins n ⟨[], 0⟩ l
  | .add n b, l => upd n (fun f => ⟨f.bytes ++ b, f.synced⟩) l
  | .syn n, l => upd n (fun f => ⟨f.bytes, f.bytes.length⟩) l
  | .short n k, l => upd n (fun f => ⟨f.bytes.take k, min f.synced k⟩) l
  | .move n m, l => moved n m l
  | .gone n, l => del n l
def tot (l : Fs) : Nat := total (fun f : File => f.bytes.length) l
/- That it tells no error but that the disk is down. -/
def Eff.may (cap : Int) : Eff → Fs → Prop
  | .new n, l => look n l = none ∧ l.length < 1000
  | .add n b, l => (look n l).isSome = true ∧ ((tot l + b.length : Nat) : Int) ≤ cap
  | .syn n, l => (look n l).isSome = true
  | .short n k, l => ∃ f, look n l = some f ∧ k ≤ f.bytes.length
  | .move n _, l => (look n l).isSome = true
  | .gone n, l => (look n l).isSome = true
theorem isNone_of {α : Type} {o : Option α} (h : o.isSome = true) : o.isNone = false := by cases o <;> simp_all
theorem call_eq (x : Eff) (S : St) (hd : S.down = false) (h : x.may S.cap S.files) : x.call S = effect S fun T => { T with files := x.on T.files } := by
  cases x with
  | new n =>
    obtain ⟨h1, h2⟩ := h
    show create S n = _
    unfold create
    rw [hd, h1, if_neg (by simp), if_neg (by simp), if_neg (by omega)]
    rfl
  | add n b =>
    obtain ⟨h1, h2⟩ := h
    show append S n b = _
    unfold append
    rw [hd, isNone_of h1, if_neg (by simp), if_neg (by simp), if_neg (by unfold used; unfold tot at h2; omega)]
    rfl
  | syn n =>
    show sync S n = _
    unfold sync
    rw [hd, isNone_of h, if_neg (by simp), if_neg (by simp)]
    rfl
  | short n k =>
    obtain ⟨f, h1, h2⟩ := h
    show cut S n k = _
    unfold cut
    rw [hd, if_neg (by simp), h1]
    simp only
    rw [if_neg (by omega)]
    rfl
  | move n m =>
    show rename S n m = _
    unfold rename
    rw [hd, isNone_of h, if_neg (by simp), if_neg (by simp)]
    rfl
  | gone n =>
    show delete S n = _
    unfold delete
    rw [hd, isNone_of h, if_neg (by simp), if_neg (by simp)]
    rfl
def run : List Eff → St → Int × St
  | [], S => (0, S)
  | x :: r, S => if (x.call S).1 = 0 then run r (x.call S).2 else x.call S
def ons (xs : List Eff) (l : Fs) : Fs := xs.foldl (fun l x => x.on l) l
theorem ons_cons (x : Eff) (r : List Eff) (l : Fs) : ons (x :: r) l = ons r (x.on l) := rfl
theorem ons_app (a b : List Eff) (l : Fs) : ons (a ++ b) l = ons b (ons a l) := List.foldl_append ..
def Mays (cap : Int) : List Eff → Fs → Prop
  | [], _ => True
  | x :: r, l => x.may cap l ∧ Mays cap r (x.on l)
theorem mays_app {cap : Int} {a b : List Eff} {l : Fs} : Mays cap (a ++ b) l ↔ Mays cap a l ∧ Mays cap b (ons a l) := by
  induction a generalizing l with
  | nil => simp [Mays, ons]
  | cons x r ih => simp [Mays, ons_cons, ih, and_assoc]
theorem run_app (a b : List Eff) (S : St) : run (a ++ b) S = if (run a S).1 = 0 then run b (run a S).2 else run a S := by
  induction a generalizing S with
  | nil => simp [run]
  | cons x r ih =>
    show (if (x.call S).1 = 0 then run (r ++ b) (x.call S).2 else x.call S) = _
    by_cases h : (x.call S).1 = 0
    · have e : run (x :: r) S = run r (x.call S).2 := if_pos h
      rw [if_pos h, e, ih]
    · have e : run (x :: r) S = x.call S := if_neg h
      rw [if_neg h, e, if_neg h]
def PlanOk (pl : Option (Int × Int)) : Prop := ∀ l k, pl = some (l, k) → 0 ≤ l ∧ l ≤ 9223372036854775807 ∧ 0 ≤ k ∧ k ≤ 9223372036854775807
theorem planOk_step {S : St} (h : PlanOk S.plan) (hn : now S = none) : PlanOk (stepS S).plan := by
  intro l k e
  unfold stepS at e
  simp only at e
  cases hp : S.plan with
  | none => rw [hp] at e; cases e
  | some q =>
    obtain ⟨l0, k0⟩ := q
    rw [hp] at e
    simp only [Option.map_some, Option.some.injEq, Prod.mk.injEq] at e
    obtain ⟨h1, h2, h3, h4⟩ := h l0 k0 hp
    unfold now at hn
    rw [hp] at hn
    simp only at hn
    have h5 : l0 ≠ 0 := by
      intro e0
      rw [if_pos e0] at hn
      cases hn
    omega
theorem keep_ok {S : St} (h : PlanOk S.plan) {kp : Int} (hn : now S = some kp) : 0 ≤ kp := by
  unfold now at hn
  cases hp : S.plan with
  | none => rw [hp] at hn; cases hn
  | some q =>
    obtain ⟨l0, k0⟩ := q
    rw [hp] at hn
    simp only at hn
    split at hn
    · injection hn with hn
      have := (h l0 k0 hp).2.2.1
      omega
    · cases hn
/- All are done, or the disk goes down at one of them. -/
theorem run_ends (xs : List Eff) (S : St) (hd : S.down = false) (hp : PlanOk S.plan) (h : Mays S.cap xs S.files) :
    (∃ e pl, run xs S = (0, ⟨S.cap, ons xs S.files, e, pl, false⟩) ∧ (S.plan = none → pl = none) ∧ PlanOk pl) ∨
    (S.plan ≠ none ∧ ∃ j kp e, j < xs.length ∧ 0 ≤ kp ∧ run xs S = (15, ⟨S.cap, mapv (trunc kp) (ons (xs.take j) S.files), e, none, true⟩)) := by
  induction xs generalizing S with
  | nil => exact .inl ⟨S.effects, S.plan, by obtain ⟨c, f, e, pl, d⟩ := S; simp only at hd; subst hd; rfl, fun h => h, hp⟩
  | cons x r ih =>
    obtain ⟨h1, h2⟩ := h
    have hc := call_eq x S hd h1
    cases hn : now S with
    | none =>
      rw [effect_done hn] at hc
      have e1 : run (x :: r) S = run r { stepS S with files := x.on (stepS S).files } := by
        show (if (x.call S).1 = 0 then run r (x.call S).2 else x.call S) = _
        rw [hc]; rfl
      rw [e1]
      rcases ih { stepS S with files := x.on (stepS S).files } hd (planOk_step hp hn) h2 with ⟨e, pl, h3, h4, h5⟩ | ⟨h0, j, kp, e, h3, h4, h5⟩
      · exact .inl ⟨e, pl, h3, fun hq => h4 (by show S.plan.map _ = none; rw [hq]; rfl), h5⟩
      · refine .inr ⟨fun hq => h0 (by show S.plan.map _ = none; rw [hq]; rfl), j + 1, kp, e, by simp; omega, h4, h5⟩
    | some kp =>
      rw [effect_crash hn] at hc
      refine .inr ⟨fun hq => ?_, 0, kp, S.effects, by simp, keep_ok hp hn, ?_⟩
      · unfold now at hn
        rw [hq] at hn
        cases hn
      · show (if (x.call S).1 = 0 then run r (x.call S).2 else x.call S) = _
        rw [hc, if_neg (show ¬ (15 : Int) = 0 by decide)]
        rfl
/- What lies under a name behind each effect. -/
theorem look_moved {n m k : Nm} {l : Fs} (ha : Apart l) (h : (look n l).isSome = true) : look k (moved n m l) = if k = m then look n l else if k = n then none else look k l := by
  unfold moved
  cases hl : look n l with
  | none => rw [hl] at h; cases h
  | some f =>
    simp only
    have a1 := apart_del ha n
    have a2 := apart_del a1 m
    have e0 : look m (del m (del n l)) = none := look_del_same
    by_cases hk : k = m
    · rw [if_pos hk, hk, look_ins_same a2 e0]
    · rw [if_neg hk, look_ins_other a2 e0 hk, look_del_other hk]
      by_cases hkn : k = n
      · rw [if_pos hkn, hkn, look_del_same]
      · rw [if_neg hkn, look_del_other hkn]
theorem apart_moved {n m : Nm} {l : Fs} (ha : Apart l) : Apart (moved n m l) := by
  unfold moved
  split
  · exact apart_ins (apart_del (apart_del ha n) m) look_del_same
  · exact ha
theorem Eff.apart {cap : Int} {x : Eff} {l : Fs} (h : x.may cap l) (ha : Apart l) : Apart (x.on l) := by
  cases x with
  | new n => exact apart_ins ha h.1
  | add n b => exact apart_upd ha n (fun f => ⟨f.bytes ++ b, f.synced⟩)
  | syn n => exact apart_upd ha n (fun f => ⟨f.bytes, f.bytes.length⟩)
  | short n k => exact apart_upd ha n (fun f => ⟨f.bytes.take k, min f.synced k⟩)
  | move n m => exact apart_moved ha
  | gone n => exact apart_del ha n
/- The file that an effect leaves under a name. -/
def Eff.see : Eff → (Nm → Option File) → Nm → Option File
  | .new n, v => fun k => if k = n then some ⟨[], 0⟩ else v k
  | .add n b, v => fun k => if k = n then (v k).map (fun f => ⟨f.bytes ++ b, f.synced⟩) else v k
  | .syn n, v => fun k => if k = n then (v k).map (fun f => ⟨f.bytes, f.bytes.length⟩) else v k
  | .short n j, v => fun k => if k = n then (v k).map (fun f => ⟨f.bytes.take j, min f.synced j⟩) else v k
  | .move n m, v => fun k => if k = m then v n else if k = n then none else v k
  | .gone n, v => fun k => if k = n then none else v k
theorem look_on {cap : Int} {x : Eff} {l : Fs} (h : x.may cap l) (ha : Apart l) : (fun k => look k (x.on l)) = x.see (fun k => look k l) := by
  funext k
  cases x with
  | new n =>
    show look k (ins n _ l) = if k = n then _ else _
    by_cases hk : k = n
    · rw [if_pos hk, hk, look_ins_same ha h.1]
    · rw [if_neg hk, look_ins_other ha h.1 hk]
  | add n b => exact look_upd n k (fun f => ⟨f.bytes ++ b, f.synced⟩) l
  | syn n => exact look_upd n k (fun f => ⟨f.bytes, f.bytes.length⟩) l
  | short n j => exact look_upd n k (fun f => ⟨f.bytes.take j, min f.synced j⟩) l
  | move n m => exact look_moved ha h
  | gone n =>
    show look k (del n l) = if k = n then _ else _
    by_cases hk : k = n
    · rw [if_pos hk, hk, look_del_same]
    · rw [if_neg hk, look_del_other hk]
def sees (xs : List Eff) (v : Nm → Option File) : Nm → Option File := xs.foldl (fun v x => x.see v) v
theorem sees_cons (x : Eff) (r : List Eff) (v : Nm → Option File) : sees (x :: r) v = sees r (x.see v) := rfl
theorem sees_app (a b : List Eff) (v : Nm → Option File) : sees (a ++ b) v = sees b (sees a v) := List.foldl_append ..
theorem look_ons {cap : Int} {xs : List Eff} {l : Fs} (h : Mays cap xs l) (ha : Apart l) : (fun k => look k (ons xs l)) = sees xs (fun k => look k l) ∧ Apart (ons xs l) := by
  induction xs generalizing l with
  | nil => exact ⟨rfl, ha⟩
  | cons x r ih =>
    obtain ⟨h1, h2⟩ := h
    obtain ⟨h3, h4⟩ := ih h2 (Eff.apart h1 ha)
    rw [ons_cons]
    exact ⟨by rw [h3, look_on h1 ha, sees_cons], h4⟩
theorem mays_take {cap : Int} {xs : List Eff} {l : Fs} (h : Mays cap xs l) (j : Nat) : Mays cap (xs.take j) l := by
  induction xs generalizing l j with
  | nil => simpa using h
  | cons x r ih =>
    rcases j with _ | j
    · exact trivial
    · exact ⟨h.1, ih h.2 j⟩
end Go.Proofs.YtkppliljlcihmaaGreatDoor.Disk
namespace Go.Proofs.YtkppliljlcihmaaGreatDoor.Seg
open Go.Proofs.YtkppliljlcihmaaGreatDoor.Mem
open Go.Proofs.YtkppliljlcihmaaGreatDoor.Disk (Nm File Eff sees sees_cons sees_app trunc cutTo)
open Go.Proofs.YtkppliljlcihmaaGreatDoor.Rec (Rcd Is okBody)
open Go.Proofs.YtkppliljlcihmaaGreatDoor.Frame (frm bad_cut)
open Go.Proofs.YtkppliljlcihmaaGreatDoor.Torn (one frames size one_bad body_pos frm_size frames_cons)
set_option linter.unusedVariables false

abbrev View := Nm → Option File
/- Names. -/
def nM : Nm := [109]
def nT : Nm := [116]
def dec (n : Nat) : Nm := if n < 10 then [UInt8.ofNat (48 + n)] else dec (n / 10) ++ [UInt8.ofNat (48 + n % 10)]
termination_by n
decreasing_by omega
def seg (n : Nat) : Nm := 115 :: dec n
def val (l : Nm) : Nat := l.foldl (fun a c => a * 10 + (c.toNat - 48)) 0
theorem digit (d : Nat) (h : d < 10) : (UInt8.ofNat (48 + d)).toNat - 48 = d := by
  have : (UInt8.ofNat (48 + d)).toNat = (48 + d) % 256 := by simp
  rw [this]; omega
theorem val_dec (n : Nat) : val (dec n) = n := by
  induction n using Nat.strongRecOn with
  | _ n ih =>
    rw [dec]
    split
    · rename_i h
      show 0 * 10 + _ = n
      rw [digit n h]; omega
    · rename_i h
      unfold val
      rw [List.foldl_append]
      show (val (dec (n / 10))) * 10 + _ = n
      rw [ih (n / 10) (by omega), digit _ (by omega)]
      omega
theorem seg_inj {n m : Nat} (h : seg n = seg m) : n = m := by
  unfold seg at h
  injection h with _ h
  rw [← val_dec n, h, val_dec]
theorem seg_m (n : Nat) : seg n ≠ nM := by
  intro h
  unfold seg nM at h
  injection h with h
  cases h
theorem seg_t (n : Nat) : seg n ≠ nT := by
  intro h
  unfold seg nT at h
  injection h with h
  cases h
theorem t_m : nT ≠ nM := by decide
/- The manifest. -/
def manBody (nums : List Nat) (base : Nat) (begun : Bool) : List Int :=
  Pack.put (4 * nums.length) 2 ++ nums.flatMap (fun i => Pack.put i 4) ++ Pack.put base 4 ++ [if begun then 1 else 0]
def manFile (nums : List Nat) (base : Nat) (begun : Bool) : List Int := frm (manBody nums base begun)
/- A file all of whose bytes are synced. -/
def full (bs : List Int) : File := ⟨bs, bs.length⟩
theorem trunc_full {kp : Int} (h : 0 ≤ kp) (bs : List Int) : trunc kp (full bs) = full bs := by
  have e : cutTo kp (full bs) = bs.length := by
    unfold cutTo full
    simp only
    omega
  unfold trunc
  rw [e]
  show (⟨bs.take bs.length, bs.length⟩ : File) = ⟨bs, bs.length⟩
  rw [List.take_length]
theorem trunc_part {kp : Int} (h : 0 ≤ kp) (A Z : List Int) : ∃ n, n ≤ Z.length ∧ trunc kp ⟨A ++ Z, A.length⟩ = full (A ++ Z.take n) := by
  refine ⟨(min kp (Z.length : Int)).toNat, by omega, ?_⟩
  have e : cutTo kp ⟨A ++ Z, A.length⟩ = A.length + (min kp (Z.length : Int)).toNat := by
    unfold cutTo
    simp only [List.length_append]
    omega
  unfold trunc
  rw [e]
  have e2 : (A ++ Z).take (A.length + (min kp (Z.length : Int)).toNat) = A ++ Z.take (min kp (Z.length : Int)).toNat := by
    rw [List.take_append, List.take_of_length_le (Nat.le_add_right _ _), Nat.add_sub_cancel_left]
  simp only [e2]
  unfold full
  rw [List.length_append, List.length_take]
  congr 1
  omega
/- Segments that count once the log is opened. -/
def kept (base : Nat) (nums : List Nat) : List Nat := if base = 0 then nums else nums.filter fun i => decide (i < base)
theorem kept_zero (nums : List Nat) : kept 0 nums = nums := if_pos rfl
theorem mem_kept {base i : Nat} {nums : List Nat} (h : i ∈ kept base nums) : i ∈ nums := by
  unfold kept at h
  split at h
  · exact h
  · exact (List.mem_filter.1 h).1
structure Nums (nums : List Nat) : Prop where
  rising : nums.Pairwise (· < ·)
  pos : ∀ i ∈ nums, 1 ≤ i
  some_ : nums ≠ []
/- What an open log's files are. -/
structure Inv (v : View) (nums : List Nat) (base : Nat) (begun : Bool) (fr : Nat → List (List Rcd)) : Prop where
  man : v nM = some (full (manFile nums base begun))
  segs : ∀ i ∈ nums, v (seg i) = some (full (frames (fr i)))
  only : ∀ n, (v n).isSome = true → n = nM ∨ ∃ i ∈ nums, n = seg i
/- What a disk is from which a log of these segments can be opened. -/
structure Back (v : View) (nums : List Nat) (begun : Bool) (fr : Nat → List (List Rcd)) : Prop where
  man : ∃ all base, Nums all ∧ nums = kept base all ∧ v nM = some (full (manFile all base begun))
  segs : ∀ i ∈ nums, ∃ tail, v (seg i) = some (full (frames (fr i) ++ tail)) ∧ one tail = none ∧ (nums.getLast? ≠ some i → tail = [])
theorem Back.cong {v v' : View} {nums : List Nat} {begun : Bool} {fr fr' : Nat → List (List Rcd)} (h : Back v nums begun fr) (hm : v' nM = v nM) (hs : ∀ i ∈ nums, v' (seg i) = v (seg i) ∧ fr' i = fr i) : Back v' nums begun fr' := by
  refine ⟨?_, fun i hi => ?_⟩
  · obtain ⟨all, base, h1, h2, h3⟩ := h.man
    exact ⟨all, base, h1, h2, hm.trans h3⟩
  · obtain ⟨tail, h1, h2, h3⟩ := h.segs i hi
    obtain ⟨e1, e2⟩ := hs i hi
    exact ⟨tail, by rw [e1, h1, e2], h2, h3⟩
def cutAll (kp : Int) (v : View) : View := fun n => (v n).map (trunc kp)
theorem Back.crash {v : View} {nums : List Nat} {begun : Bool} {fr : Nat → List (List Rcd)} (h : Back v nums begun fr) {kp : Int} (hk : 0 ≤ kp) : Back (cutAll kp v) nums begun fr := by
  refine h.cong ?_ (fun i hi => ⟨?_, rfl⟩)
  · obtain ⟨all, base, h1, h2, h3⟩ := h.man
    unfold cutAll
    rw [h3, Option.map_some, trunc_full hk]
  · obtain ⟨tail, h1, h2, h3⟩ := h.segs i hi
    unfold cutAll
    rw [h1, Option.map_some, trunc_full hk]
theorem Inv.back {v : View} {nums : List Nat} {base : Nat} {begun : Bool} {fr : Nat → List (List Rcd)} (h : Inv v nums base begun fr) (hn : Nums nums) : Back v (kept base nums) begun fr :=
  ⟨⟨nums, base, hn, rfl, h.man⟩, fun i hi => ⟨[], by rw [List.append_nil]; exact h.segs i (mem_kept hi), Torn.one_nil, fun _ => rfl⟩⟩
/- An effect on one file alone. -/
def onlyAt (x : Eff) (n : Nm) : Prop := x = .new n ∨ (∃ b, x = .add n b) ∨ x = .syn n ∨ x = .gone n
theorem see_other {x : Eff} {n k : Nm} (h : onlyAt x n) (hk : k ≠ n) (v : View) : x.see v k = v k := by
  rcases h with rfl | ⟨b, rfl⟩ | rfl | rfl <;> exact if_neg hk
/- A name that a log of these segments has nothing to do with. -/
def Off (nums : List Nat) (n : Nm) : Prop := n ≠ nM ∧ ∀ i ∈ nums, n ≠ seg i
theorem off_t (nums : List Nat) : Off nums nT := ⟨t_m, fun i _ e => seg_t i e.symm⟩
theorem sees_off {xs : List Eff} {nums : List Nat} (h : ∀ x ∈ xs, ∃ n, onlyAt x n ∧ Off nums n) (v : View) : sees xs v nM = v nM ∧ ∀ i ∈ nums, sees xs v (seg i) = v (seg i) := by
  induction xs generalizing v with
  | nil => exact ⟨rfl, fun _ _ => rfl⟩
  | cons x r ih =>
    obtain ⟨n, h1, h2, h3⟩ := h x List.mem_cons_self
    obtain ⟨g1, g2⟩ := ih (fun y hy => h y (List.mem_cons_of_mem _ hy)) (x.see v)
    rw [sees_cons]
    exact ⟨by rw [g1, see_other h1 h2.symm], fun i hi => by rw [g2 i hi, see_other h1 (h3 i hi).symm]⟩
theorem Back.off {v : View} {nums : List Nat} {begun : Bool} {fr : Nat → List (List Rcd)} (h : Back v nums begun fr) {xs : List Eff} (hx : ∀ x ∈ xs, ∃ n, onlyAt x n ∧ Off nums n) : Back (sees xs v) nums begun fr := by
  obtain ⟨h1, h2⟩ := sees_off hx v
  exact h.cong h1 (fun i hi => ⟨h2 i hi, rfl⟩)
theorem Back.offs {v : View} {nums : List Nat} {begun : Bool} {fr : Nat → List (List Rcd)} (h : Back v nums begun fr) {xs : List Eff} (hx : ∀ x ∈ xs, ∃ n, onlyAt x n ∧ Off nums n) (j : Nat) : Back (sees (xs.take j) v) nums begun fr :=
  h.off (fun x hxm => hx x (List.mem_of_mem_take hxm))
/- The manifest is switched. -/
def swA (B : List Int) : List Eff := [.new nT, .add nT B, .syn nT]
def sw (B : List Int) : List Eff := swA B ++ [.move nT nM]
theorem swA_off (nums : List Nat) (B : List Int) : ∀ x ∈ swA B, ∃ n, onlyAt x n ∧ Off nums n := by
  intro x hx
  unfold swA at hx
  refine ⟨nT, ?_, off_t nums⟩
  simp only [List.mem_cons, List.not_mem_nil, or_false] at hx
  rcases hx with rfl | rfl | rfl
  · exact .inl rfl
  · exact .inr (.inl ⟨B, rfl⟩)
  · exact .inr (.inr (.inl rfl))
theorem swA_other (B : List Int) (v : View) {n : Nm} (hn : n ≠ nT) : sees (swA B) v n = v n := by
  unfold swA
  simp only [sees_cons]
  show (Eff.syn nT).see _ n = _
  rw [see_other (x := .syn nT) (.inr (.inr (.inl rfl))) hn, see_other (x := .add nT B) (.inr (.inl ⟨B, rfl⟩)) hn, see_other (x := .new nT) (.inl rfl) hn]
theorem swA_t (B : List Int) (v : View) : sees (swA B) v nT = some (full B) := by
  unfold swA
  simp only [sees_cons]
  show (Eff.syn nT).see ((Eff.add nT B).see ((Eff.new nT).see v)) nT = some (full B)
  simp [Eff.see, full]
theorem sw_all (B : List Int) (v : View) (n : Nm) : sees (sw B) v n = if n = nM then some (full B) else if n = nT then none else v n := by
  unfold sw
  rw [sees_app]
  show (if n = nM then sees (swA B) v nT else if n = nT then none else sees (swA B) v n) = _
  rw [swA_t]
  by_cases h1 : n = nM
  · rw [if_pos h1, if_pos h1]
  · rw [if_neg h1, if_neg h1]
    by_cases h2 : n = nT
    · rw [if_pos h2, if_pos h2]
    · rw [if_neg h2, if_neg h2, swA_other B v h2]
theorem sw_length (B : List Int) : (sw B).length = 4 := rfl
theorem sw_take (B : List Int) (j : Nat) (hj : j < 4) : (sw B).take j = (swA B).take j := by
  unfold sw
  rw [List.take_append_of_le_length (by show j ≤ 3; omega)]
theorem sw_seg (B : List Int) (v : View) (i : Nat) : sees (sw B) v (seg i) = v (seg i) := by rw [sw_all, if_neg (seg_m i), if_neg (seg_t i)]
theorem sw_m (B : List Int) (v : View) : sees (sw B) v nM = some (full B) := by rw [sw_all, if_pos rfl]
/- Of a frame that is cut nothing is told. -/
theorem one_cut {l : List Rcd} (h : okBody l) (k : Nat) (hk : k < size l) : one ((frm (Rec.body l)).take k) = none := by
  refine one_bad ?_
  rw [bad_cut (body_pos h) h.2.2 k hk]
  omega
theorem frames_add (ls : List (List Rcd)) (l : List Rcd) : frames (ls ++ [l]) = frames ls ++ frm (Rec.body l) := by
  unfold frames
  rw [List.flatMap_append]
  simp
end Go.Proofs.YtkppliljlcihmaaGreatDoor.Seg
namespace Go.Proofs.YtkppliljlcihmaaGreatDoor.Seg
open Go.Proofs.YtkppliljlcihmaaGreatDoor.Mem
open Go.Proofs.YtkppliljlcihmaaGreatDoor.Disk (Nm File Eff sees sees_cons sees_app trunc cutTo)
open Go.Proofs.YtkppliljlcihmaaGreatDoor.Rec (Rcd Is okBody)
open Go.Proofs.YtkppliljlcihmaaGreatDoor.Frame (frm)
open Go.Proofs.YtkppliljlcihmaaGreatDoor.Torn (one frames size frm_size)
set_option linter.unusedVariables false

section
variable {v : View} {nums : List Nat} {base : Nat} {begun : Bool} {fr : Nat → List (List Rcd)}
/- Two rows of effects, one behind the other. -/
theorem take_two {P : View → Prop} {a b : List Eff} (ha : ∀ j, j < a.length → P (sees (a.take j) v)) (hb : ∀ j, j < b.length → P (sees (b.take j) (sees a v))) (j : Nat) (hj : j < (a ++ b).length) : P (sees ((a ++ b).take j) v) := by
  rw [List.length_append] at hj
  rw [List.take_append]
  by_cases h : j < a.length
  · rw [show j - a.length = 0 by omega, List.take_zero, List.append_nil]
    exact ha j h
  · rw [List.take_of_length_le (by omega), sees_app]
    exact hb _ (by omega)
def bump (fr : Nat → List (List Rcd)) (i : Nat) (l : List Rcd) : Nat → List (List Rcd) := fun k => if k = i then fr k ++ [l] else fr k
theorem bump_same (fr : Nat → List (List Rcd)) (i : Nat) (l : List Rcd) : bump fr i l i = fr i ++ [l] := if_pos rfl
theorem bump_other (fr : Nat → List (List Rcd)) {i k : Nat} (l : List Rcd) (h : k ≠ i) : bump fr i l k = fr k := if_neg h
/- A frame goes behind a segment, and is synced. -/
def apA (i : Nat) (f : List Int) : List Eff := [.add (seg i) f, .syn (seg i)]
theorem ap_see (h : Inv v nums base begun fr) {i : Nat} (hi : i ∈ nums) (f : List Int) (n : Nm) : sees (apA i f) v n = if n = seg i then some (full (frames (fr i) ++ f)) else v n := by
  unfold apA
  simp only [sees_cons]
  show (Eff.syn (seg i)).see ((Eff.add (seg i) f).see v) n = _
  by_cases hn : n = seg i
  · rw [if_pos hn, hn]
    simp [Eff.see, h.segs i hi, full]
  · rw [if_neg hn]
    simp [Eff.see, hn]
theorem add_inv (h : Inv v nums base begun fr) {i : Nat} (hi : i ∈ nums) (l : List Rcd) : Inv (sees (apA i (frm (Rec.body l))) v) nums base begun (bump fr i l) := by
  refine ⟨?_, fun k hk => ?_, fun n hn => ?_⟩
  · rw [ap_see h hi, if_neg (seg_m i).symm]; exact h.man
  · rw [ap_see h hi]
    by_cases hki : k = i
    · subst hki
      rw [if_pos rfl, bump_same, frames_add]
    · rw [if_neg (fun e => hki (seg_inj e)), bump_other fr l hki]
      exact h.segs k hk
  · rw [ap_see h hi] at hn
    by_cases hni : n = seg i
    · exact .inr ⟨i, hi, hni⟩
    · rw [if_neg hni] at hn
      exact h.only n hn
theorem last_mem {i : Nat} (h : nums.getLast? = some i) : i ∈ nums := List.mem_of_getLast? h
theorem kept_base {i : Nat} (hb : base = 0 ∨ base ≤ i) (h0 : base ≠ 0) : i ∉ kept base nums := by
  intro h
  unfold kept at h
  rw [if_neg h0] at h
  have := (List.mem_filter.1 h).2
  simp at this
  omega
/- .. and the disk goes down at one of the two. -/
theorem add_crash (h : Inv v nums base begun fr) (hN : Nums nums) {i : Nat} (hi : nums.getLast? = some i) (hb : base = 0 ∨ base ≤ i) {l : List Rcd} (hl : okBody l) {kp : Int} (hk : 0 ≤ kp) (j : Nat) (hj : j < 2) :
    Back (cutAll kp (sees ((apA i (frm (Rec.body l))).take j) v)) (kept base nums) begun fr ∨ Back (cutAll kp (sees ((apA i (frm (Rec.body l))).take j) v)) (kept base nums) begun (bump fr i l) := by
  have hmem := last_mem hi
  rcases (show j = 0 ∨ j = 1 by omega) with rfl | rfl
  · exact .inl ((h.back hN).crash hk)
  · have hv : ∀ n, sees ((apA i (frm (Rec.body l))).take 1) v n = if n = seg i then some ⟨frames (fr i) ++ frm (Rec.body l), (frames (fr i)).length⟩ else v n := by
      intro n
      show (Eff.add (seg i) (frm (Rec.body l))).see v n = _
      by_cases hn : n = seg i
      · rw [if_pos hn, hn]
        simp [Eff.see, h.segs i hmem, full]
      · rw [if_neg hn]
        simp [Eff.see, hn]
    obtain ⟨n, hn1, hn2⟩ := trunc_part hk (frames (fr i)) (frm (Rec.body l))
    have hw : ∀ m, cutAll kp (sees ((apA i (frm (Rec.body l))).take 1) v) m = if m = seg i then some (full (frames (fr i) ++ (frm (Rec.body l)).take n)) else cutAll kp v m := by
      intro m
      unfold cutAll
      rw [hv]
      by_cases hm : m = seg i
      · rw [if_pos hm, if_pos hm, Option.map_some, hn2]
      · rw [if_neg hm, if_neg hm]
    have hB := (h.back hN).crash hk
    have hM : cutAll kp (sees ((apA i (frm (Rec.body l))).take 1) v) nM = cutAll kp v nM := by rw [hw, if_neg (seg_m i).symm]
    by_cases h0 : base = 0
    · subst h0
      rw [kept_zero] at hB ⊢
      by_cases hns : n < size l
      · refine .inl ⟨?_, fun k hkm => ?_⟩
        · obtain ⟨all, b, q1, q2, q3⟩ := hB.man
          exact ⟨all, b, q1, q2, hM.trans q3⟩
        · by_cases hki : k = i
          · subst hki
            refine ⟨(frm (Rec.body l)).take n, by rw [hw, if_pos rfl], one_cut hl n hns, fun hne => absurd hi hne⟩
          · obtain ⟨tail, q1, q2, q3⟩ := hB.segs k hkm
            exact ⟨tail, by rw [hw, if_neg (fun e => hki (seg_inj e))]; exact q1, q2, q3⟩
      · rw [frm_size] at hn1
        have hfn : (frm (Rec.body l)).take n = frm (Rec.body l) := List.take_of_length_le (by rw [frm_size]; omega)
        refine .inr ⟨?_, fun k hkm => ?_⟩
        · obtain ⟨all, b, q1, q2, q3⟩ := hB.man
          exact ⟨all, b, q1, q2, hM.trans q3⟩
        · by_cases hki : k = i
          · subst hki
            refine ⟨[], by rw [hw, if_pos rfl, hfn, bump_same, frames_add, List.append_nil], Torn.one_nil, fun _ => rfl⟩
          · obtain ⟨tail, q1, q2, q3⟩ := hB.segs k hkm
            rw [bump_other fr l hki]
            exact ⟨tail, by rw [hw, if_neg (fun e => hki (seg_inj e))]; exact q1, q2, q3⟩
    · refine .inl (hB.cong hM (fun k hkm => ⟨?_, rfl⟩))
      have hki : k ≠ i := fun e => kept_base hb h0 (e ▸ hkm)
      rw [hw, if_neg (fun e => hki (seg_inj e))]
/- The next segment is created, and the manifest switched. -/
def rotA (next : Nat) (B : List Int) : List Eff := .new (seg next) :: sw B
theorem rot_length (next : Nat) (B : List Int) : (rotA next B).length = 5 := rfl
theorem rot_see (next : Nat) (B : List Int) (n : Nm) : sees (rotA next B) v n = if n = nM then some (full B) else if n = nT then none else if n = seg next then some (full []) else v n := by
  unfold rotA
  rw [sees_cons, sw_all]
  rfl
theorem rot_inv (h : Inv v nums base begun fr) {next : Nat} (hn : ∀ i ∈ nums, i ≠ next) (hf : fr next = []) (base' : Nat) (begun' : Bool) : Inv (sees (rotA next (manFile (nums ++ [next]) base' begun')) v) (nums ++ [next]) base' begun' fr := by
  refine ⟨by rw [rot_see, if_pos rfl], fun i hi => ?_, fun n hs => ?_⟩
  · rw [rot_see, if_neg (seg_m i), if_neg (seg_t i)]
    rcases List.mem_append.1 hi with hi | hi
    · rw [if_neg (fun e => hn i hi (seg_inj e))]; exact h.segs i hi
    · rw [List.mem_singleton.1 hi, if_pos rfl, hf]; rfl
  · rw [rot_see] at hs
    by_cases h1 : n = nM
    · exact .inl h1
    · rw [if_neg h1] at hs
      by_cases h2 : n = nT
      · rw [if_pos h2] at hs; cases hs
      · rw [if_neg h2] at hs
        by_cases h3 : n = seg next
        · exact .inr ⟨next, List.mem_append_right _ (List.mem_singleton.2 rfl), h3⟩
        · rw [if_neg h3] at hs
          rcases h.only n hs with h4 | ⟨i, hi, h4⟩
          · exact .inl h4
          · exact .inr ⟨i, List.mem_append_left _ hi, h4⟩
theorem off_seg {next : Nat} (hn : ∀ i ∈ nums, i ≠ next) : Off nums (seg next) := ⟨seg_m next, fun i hi e => hn i hi (seg_inj e).symm⟩
theorem Off.kept {n : Nm} (h : Off nums n) (base : Nat) : Off (kept base nums) n := ⟨h.1, fun i hi => h.2 i (mem_kept hi)⟩
theorem rot_crash (h : Inv v nums base begun fr) (hN : Nums nums) {next : Nat} (hn : ∀ i ∈ nums, i ≠ next) (B : List Int) {kp : Int} (hk : 0 ≤ kp) (j : Nat) (hj : j < 5) : Back (cutAll kp (sees ((rotA next B).take j) v)) (kept base nums) begun fr := by
  have e : (rotA next B).take j = (.new (seg next) :: swA B).take j := by
    have e1 : rotA next B = (.new (seg next) :: swA B) ++ [.move nT nM] := rfl
    rw [e1, List.take_append_of_le_length (by show j ≤ 4; omega)]
  rw [e]
  refine ((h.back hN).offs (fun x hx => ?_) j).crash hk
  rcases List.mem_cons.1 hx with rfl | hx
  · exact ⟨seg next, .inl rfl, (off_seg hn).kept base⟩
  · exact swA_off _ B x hx
/- A merge is adopted: the manifest is switched to the segments from the base on, and the others are deleted. -/
def goneA (ns : List Nat) : List Eff := ns.map fun i => .gone (seg i)
theorem gone_see (ns : List Nat) (v : View) (n : Nm) : sees (goneA ns) v n = if (∃ i ∈ ns, n = seg i) then none else v n := by
  induction ns generalizing v with
  | nil => simp [goneA, sees]
  | cons i r ih =>
    show sees (goneA r) ((Eff.gone (seg i)).see v) n = _
    rw [ih]
    by_cases h1 : ∃ k ∈ r, n = seg k
    · rw [if_pos h1, if_pos (by obtain ⟨k, hk, e⟩ := h1; exact ⟨k, List.mem_cons_of_mem _ hk, e⟩)]
    · rw [if_neg h1]
      by_cases h2 : n = seg i
      · rw [if_pos ⟨i, List.mem_cons_self, h2⟩]
        exact if_pos h2
      · rw [if_neg (by
          rintro ⟨k, hk, e⟩
          rcases List.mem_cons.1 hk with rfl | hk
          · exact h2 e
          · exact h1 ⟨k, hk, e⟩)]
        exact if_neg h2
def from_ (base : Nat) (nums : List Nat) : List Nat := nums.filter fun i => decide (base ≤ i)
def below (base : Nat) (nums : List Nat) : List Nat := nums.filter fun i => decide (i < base)
theorem mem_from {i : Nat} : i ∈ from_ base nums ↔ i ∈ nums ∧ base ≤ i := by simp [from_]
theorem mem_below {i : Nat} : i ∈ below base nums ↔ i ∈ nums ∧ i < base := by simp [below]
theorem from_nums (hN : Nums nums) {i : Nat} (hi : i ∈ nums) (hb : base ≤ i) : Nums (from_ base nums) :=
  ⟨hN.rising.filter _, fun k hk => hN.pos k (mem_from.1 hk).1, fun e => by have := mem_from.2 ⟨hi, hb⟩; rw [e] at this; cases this⟩
def adA (nums : List Nat) (base : Nat) : List Eff := sw (manFile (from_ base nums) 0 false) ++ goneA (below base nums)
theorem ad_see (nums : List Nat) (base : Nat) (n : Nm) : sees (adA nums base) v n = if (∃ i ∈ below base nums, n = seg i) then none else if n = nM then some (full (manFile (from_ base nums) 0 false)) else if n = nT then none else v n := by
  unfold adA
  rw [sees_app, gone_see, sw_all]
theorem adopt_inv (h : Inv v nums base begun fr) : Inv (sees (adA nums base) v) (from_ base nums) 0 false fr := by
  refine ⟨?_, fun i hi => ?_, fun n hs => ?_⟩
  · rw [ad_see, if_neg (by rintro ⟨i, _, e⟩; exact seg_m i e.symm), if_pos rfl]
  · obtain ⟨h1, h2⟩ := mem_from.1 hi
    rw [ad_see, if_neg (by
      rintro ⟨k, hk, e⟩
      have := (mem_below.1 hk).2
      rw [← seg_inj e] at this
      omega), if_neg (seg_m i), if_neg (seg_t i)]
    exact h.segs i h1
  · rw [ad_see] at hs
    by_cases h1 : ∃ i ∈ below base nums, n = seg i
    · rw [if_pos h1] at hs; cases hs
    · rw [if_neg h1] at hs
      by_cases h2 : n = nM
      · exact .inl h2
      · rw [if_neg h2] at hs
        by_cases h3 : n = nT
        · rw [if_pos h3] at hs; cases hs
        · rw [if_neg h3] at hs
          rcases h.only n hs with h4 | ⟨i, hi, h4⟩
          · exact .inl h4
          · refine .inr ⟨i, mem_from.2 ⟨hi, ?_⟩, h4⟩
            rcases Nat.lt_or_ge i base with h5 | h5
            · exact absurd ⟨i, mem_below.2 ⟨hi, h5⟩, h4⟩ h1
            · exact h5
theorem gone_off {ns ms : List Nat} (h : ∀ i ∈ ns, ∀ k ∈ ms, k ≠ i) : ∀ x ∈ goneA ns, ∃ n, onlyAt x n ∧ Off ms n := by
  intro x hx
  obtain ⟨i, hi, rfl⟩ := List.mem_map.1 hx
  exact ⟨seg i, .inr (.inr (.inr rfl)), off_seg (fun k hk => h i hi k hk)⟩
theorem adopt_crash (h : Inv v nums base begun fr) (hN : Nums nums) (hb : ∃ i ∈ nums, base ≤ i) {kp : Int} (hk : 0 ≤ kp) (j : Nat) (hj : j < (adA nums base).length) :
    Back (cutAll kp (sees ((adA nums base).take j) v)) (kept base nums) begun fr ∨ Back (cutAll kp (sees ((adA nums base).take j) v)) (from_ base nums) false fr := by
  refine take_two (P := fun u => Back (cutAll kp u) (kept base nums) begun fr ∨ Back (cutAll kp u) (from_ base nums) false fr) (fun j hj => ?_) (fun j hj => ?_) j hj
  · rw [sw_take _ j (by rw [sw_length] at hj; exact hj)]
    exact .inl (((h.back hN).offs (swA_off _ _) j).crash hk)
  · obtain ⟨i, hi, hbi⟩ := hb
    have hB : Back (sees (sw (manFile (from_ base nums) 0 false)) v) (from_ base nums) false fr :=
      ⟨⟨from_ base nums, 0, from_nums hN hi hbi, (kept_zero _).symm, sw_m _ _⟩, fun k hkm => ⟨[], by rw [List.append_nil, sw_seg]; exact h.segs k (mem_from.1 hkm).1, Torn.one_nil, fun _ => rfl⟩⟩
    refine .inr ((hB.offs (gone_off (fun a ha b hb e => ?_)) j).crash hk)
    have h1 := (mem_below.1 ha).2
    have h2 := (mem_from.1 hb).2
    omega
end
end Go.Proofs.YtkppliljlcihmaaGreatDoor.Seg
namespace Go.Proofs.YtkppliljlcihmaaGreatDoor.Seg
open Go.Proofs.YtkppliljlcihmaaGreatDoor.Mem
open Go.Proofs.YtkppliljlcihmaaGreatDoor.Disk (Nm File Eff Fs Apart sees sees_cons sees_app trunc cutTo ons Mays tot ins upd del moved look_on)
open Go.Proofs.YtkppliljlcihmaaGreatDoor.Rec (Rcd Is okBody)
open Go.Proofs.YtkppliljlcihmaaGreatDoor.Frame (frm)
open Go.Proofs.YtkppliljlcihmaaGreatDoor.Torn (one frames size frm_size)
set_option linter.unusedVariables false

section
variable {v : View} {nums : List Nat} {base : Nat} {begun : Bool} {fr : Nat → List (List Rcd)}
def goneN (ns : List Nm) : List Eff := ns.map fun n => .gone n
theorem goneN_see (ns : List Nm) (v : View) (n : Nm) : sees (goneN ns) v n = if n ∈ ns then none else v n := by
  induction ns generalizing v with
  | nil => simp [goneN, sees]
  | cons i r ih =>
    show sees (goneN r) ((Eff.gone i).see v) n = _
    rw [ih]
    by_cases h1 : n ∈ r
    · rw [if_pos h1, if_pos (List.mem_cons_of_mem _ h1)]
    · rw [if_neg h1]
      by_cases h2 : n = i
      · rw [if_pos (by rw [h2]; exact List.mem_cons_self)]
        exact if_pos h2
      · rw [if_neg (by simp [h1, h2])]
        exact if_neg h2
/- The four parts of opening a log: "t" is deleted, the manifest switched, what isn't told deleted, the last segment cut. -/
def opT (has : Bool) : List Eff := if has then [.gone nT] else []
def opM (base : Nat) (nums : List Nat) (begun : Bool) : List Eff := if base = 0 then [] else sw (manFile nums 0 begun)
def opC (torn : Bool) (i n : Nat) : List Eff := if torn then [.short (seg i) n, .syn (seg i)] else []
def opA (has : Bool) (base : Nat) (nums : List Nat) (begun : Bool) (dels : List Nm) (torn : Bool) (i n : Nat) : List Eff := opT has ++ (opM base nums begun ++ (goneN dels ++ opC torn i n))
theorem opT_see (v : View) (n : Nm) : sees (opT (v nT).isSome) v n = if n = nT then none else v n := by
  unfold opT
  cases h : v nT with
  | none =>
    simp only [Option.isSome_none]
    show v n = _
    by_cases hn : n = nT
    · rw [if_pos hn, hn, h]
    · rw [if_neg hn]
  | some f => rfl
theorem opM_see {base : Nat} (hm : base = 0 → v nM = some (full (manFile nums 0 begun))) (ht : v nT = none) (n : Nm) : sees (opM base nums begun) v n = if n = nM then some (full (manFile nums 0 begun)) else v n := by
  unfold opM
  by_cases h0 : base = 0
  · rw [if_pos h0]
    show v n = _
    by_cases hn : n = nM
    · rw [if_pos hn, hn, hm h0]
    · rw [if_neg hn]
  · rw [if_neg h0, sw_all]
    by_cases hn : n = nM
    · rw [if_pos hn, if_pos hn]
    · rw [if_neg hn, if_neg hn]
      by_cases h2 : n = nT
      · rw [if_pos h2, h2, ht]
      · rw [if_neg h2]
theorem short_full (A Z : List Int) : (⟨(full (A ++ Z)).bytes.take A.length, min (full (A ++ Z)).synced A.length⟩ : File) = full A := by
  have e1 : (A ++ Z).take A.length = A := List.take_left
  have e2 : min (A ++ Z).length A.length = A.length := by rw [List.length_append]; omega
  show (⟨(A ++ Z).take A.length, min (A ++ Z).length A.length⟩ : File) = _
  rw [e1, e2]
  rfl
theorem opC_see {i : Nat} {A Z : List Int} {torn : Bool} (h : v (seg i) = some (full (A ++ Z))) (ht : torn = false → Z = []) (n : Nm) : sees (opC torn i A.length) v n = if n = seg i then some (full A) else v n := by
  unfold opC
  cases torn
  · have hz := ht rfl
    subst hz
    show v n = _
    by_cases hn : n = seg i
    · rw [if_pos hn, hn, h, List.append_nil]
    · rw [if_neg hn]
  · show (Eff.syn (seg i)).see ((Eff.short (seg i) A.length).see v) n = _
    by_cases hn : n = seg i
    · rw [if_pos hn, hn]
      simp only [Eff.see, if_true, h, Option.map_some, short_full]
      rfl
    · rw [if_neg hn]
      simp [Eff.see, hn]
/- What the first three parts leave, and each beginning of them. -/
theorem opT_back (h : Back v nums begun fr) (j : Nat) : Back (sees ((opT (v nT).isSome).take j) v) nums begun fr := by
  refine h.offs (fun x hx => ?_) j
  unfold opT at hx
  split at hx
  · rw [List.mem_singleton.1 hx]
    exact ⟨nT, .inr (.inr (.inr rfl)), off_t _⟩
  · cases hx
theorem opM_back {base : Nat} (hN : Nums nums) (h : Back v nums begun fr) (j : Nat) : Back (sees ((opM base nums begun).take j) v) nums begun fr := by
  unfold opM
  by_cases h0 : base = 0
  · rw [if_pos h0, List.take_nil]; exact h
  · rw [if_neg h0]
    by_cases hj : j < 4
    · rw [sw_take _ j hj]
      exact h.offs (swA_off _ _) j
    · rw [List.take_of_length_le (by rw [sw_length]; omega)]
      refine ⟨⟨nums, 0, hN, (kept_zero _).symm, sw_m _ _⟩, fun i hi => ?_⟩
      rw [sw_seg]
      exact h.segs i hi
theorem goneN_back (h : Back v nums begun fr) {dels : List Nm} (hd : ∀ n ∈ dels, Off nums n) (j : Nat) : Back (sees ((goneN dels).take j) v) nums begun fr := by
  refine h.offs (fun x hx => ?_) j
  obtain ⟨n, hn, rfl⟩ := List.mem_map.1 hx
  exact ⟨n, .inr (.inr (.inr rfl)), hd n hn⟩
theorem Back.cut_ {v' : View} (h : Back v nums begun fr) (hm : v' nM = v nM) {i : Nat} (hi : v' (seg i) = some (full (frames (fr i)))) (ho : ∀ k ∈ nums, k ≠ i → v' (seg k) = v (seg k)) : Back v' nums begun fr := by
  refine ⟨?_, fun k hk => ?_⟩
  · obtain ⟨all, b, q1, q2, q3⟩ := h.man
    exact ⟨all, b, q1, q2, hm.trans q3⟩
  · by_cases hki : k = i
    · subst hki
      exact ⟨[], by rw [List.append_nil]; exact hi, Torn.one_nil, fun _ => rfl⟩
    · obtain ⟨tail, q1, q2, q3⟩ := h.segs k hk
      exact ⟨tail, by rw [ho k hk hki]; exact q1, q2, q3⟩
theorem opC_back (h : Back v nums begun fr) {i : Nat} (hi : i ∈ nums) {tail : List Int} (ht : v (seg i) = some (full (frames (fr i) ++ tail))) (torn : Bool) (j : Nat) : Back (sees ((opC torn i (frames (fr i)).length).take j) v) nums begun fr := by
  unfold opC
  cases torn
  · simp only [Bool.false_eq_true, if_false, List.take_nil]
    exact h
  · have h1 : ∀ n, (Eff.short (seg i) (frames (fr i)).length).see v n = if n = seg i then some (full (frames (fr i))) else v n := by
      intro n
      show (if n = seg i then _ else _) = _
      by_cases hn : n = seg i
      · rw [if_pos hn, if_pos hn, hn, ht, Option.map_some, short_full]
      · rw [if_neg hn, if_neg hn]
    have h2 : ∀ n, (Eff.syn (seg i)).see ((Eff.short (seg i) (frames (fr i)).length).see v) n = if n = seg i then some (full (frames (fr i))) else v n := by
      intro n
      show (if n = seg i then _ else _) = _
      by_cases hn : n = seg i
      · rw [if_pos hn, if_pos hn, h1, if_pos hn]; rfl
      · rw [if_neg hn, if_neg hn, h1, if_neg hn]
    simp only [if_true]
    rcases j with _ | _ | j
    · exact h
    · show Back ((Eff.short (seg i) (frames (fr i)).length).see v) nums begun fr
      exact h.cut_ (by rw [h1, if_neg (seg_m i).symm]) (by rw [h1, if_pos rfl]) (fun k _ hk => by rw [h1, if_neg (fun e => hk (seg_inj e))])
    · rw [List.take_of_length_le (by simp)]
      show Back ((Eff.syn (seg i)).see ((Eff.short (seg i) (frames (fr i)).length).see v)) nums begun fr
      exact h.cut_ (by rw [h2, if_neg (seg_m i).symm]) (by rw [h2, if_pos rfl]) (fun k _ hk => by rw [h2, if_neg (fun e => hk (seg_inj e))])
/- A log is opened: each beginning of that. -/
theorem open_back (hN : Nums nums) (h : Back v nums begun fr) {base i : Nat} (hi : i ∈ nums) {tail : List Int} (ht : v (seg i) = some (full (frames (fr i) ++ tail))) {dels : List Nm} (hd : ∀ n ∈ dels, Off nums n) (torn : Bool) (j : Nat) (hj : j < (opA (v nT).isSome base nums begun dels torn i (frames (fr i)).length).length) :
    Back (sees ((opA (v nT).isSome base nums begun dels torn i (frames (fr i)).length).take j) v) nums begun fr := by
  have hT := opT_back h (opT (v nT).isSome).length
  rw [List.take_length] at hT
  have hM := opM_back (base := base) hN hT (opM base nums begun).length
  rw [List.take_length] at hM
  have hG := goneN_back hM hd (goneN dels).length
  rw [List.take_length] at hG
  have e1 : sees (opT (v nT).isSome) v (seg i) = v (seg i) := by rw [opT_see, if_neg (seg_t i)]
  have e2 : sees (opM base nums begun) (sees (opT (v nT).isSome) v) (seg i) = v (seg i) := by
    rw [← e1]
    unfold opM
    by_cases h0 : base = 0
    · rw [if_pos h0]; rfl
    · rw [if_neg h0, sw_seg]
  have e3 : sees (goneN dels) (sees (opM base nums begun) (sees (opT (v nT).isSome) v)) (seg i) = v (seg i) := by
    rw [goneN_see, if_neg (fun hm => (hd _ hm).2 i hi rfl), e2]
  refine take_two (P := fun u => Back u nums begun fr) (fun j _ => opT_back h j) (fun j hj => ?_) j hj
  refine take_two (P := fun u => Back u nums begun fr) (fun j _ => opM_back hN hT j) (fun j hj => ?_) j hj
  refine take_two (P := fun u => Back u nums begun fr) (fun j _ => goneN_back hM hd j) (fun j hj => ?_) j hj
  exact opC_back hG hi (by rw [e3]; exact ht) torn j
/- .. and all of it. -/
theorem open_inv (hN : Nums nums) (h : Back v nums begun fr) {base i : Nat} (hb : base = 0 → v nM = some (full (manFile nums 0 begun))) (hi : nums.getLast? = some i) {tail : List Int} (ht : v (seg i) = some (full (frames (fr i) ++ tail)))
    {dels : List Nm} (hd : ∀ n ∈ dels, Off nums n) (hall : ∀ n, (v n).isSome = true → n = nM ∨ n = nT ∨ (∃ k ∈ nums, n = seg k) ∨ n ∈ dels) {torn : Bool} (htn : torn = false → tail = []) :
    Inv (sees (opA (v nT).isSome base nums begun dels torn i (frames (fr i)).length) v) nums 0 begun fr := by
  have hmem := last_mem hi
  have eT := opT_see v
  have eM := opM_see (v := sees (opT (v nT).isSome) v) (nums := nums) (begun := begun) (base := base) (fun h0 => by rw [eT, if_neg t_m.symm]; exact hb h0) (by rw [eT, if_pos rfl])
  have eG := fun n => goneN_see dels (sees (opM base nums begun) (sees (opT (v nT).isSome) v)) n
  have e3 : sees (goneN dels) (sees (opM base nums begun) (sees (opT (v nT).isSome) v)) (seg i) = some (full (frames (fr i) ++ tail)) := by
    rw [eG, if_neg (fun hm => (hd _ hm).2 i hmem rfl), eM, if_neg (seg_m i), eT, if_neg (seg_t i)]; exact ht
  have eC := fun n => opC_see (torn := torn) e3 htn n
  have eA : ∀ n, sees (opA (v nT).isSome base nums begun dels torn i (frames (fr i)).length) v n = if n = seg i then some (full (frames (fr i))) else if n ∈ dels then none else if n = nM then some (full (manFile nums 0 begun)) else if n = nT then none else v n := by
    intro n
    unfold opA
    rw [sees_app, sees_app, sees_app, eC, eG, eM, eT]
  refine ⟨?_, fun k hk => ?_, fun n hs => ?_⟩
  · rw [eA, if_neg (seg_m i).symm, if_neg (fun hm => (hd _ hm).1 rfl), if_pos rfl]
  · by_cases hki : k = i
    · subst hki
      rw [eA, if_pos rfl]
    · rw [eA, if_neg (fun e => hki (seg_inj e)), if_neg (fun hm => (hd _ hm).2 k hk rfl), if_neg (seg_m k), if_neg (seg_t k)]
      obtain ⟨t2, q1, q2, q3⟩ := h.segs k hk
      rw [q3 (fun e => by rw [hi] at e; injection e with e; exact hki e.symm), List.append_nil] at q1
      exact q1
  · rw [eA] at hs
    by_cases h1 : n = seg i
    · exact .inr ⟨i, hmem, h1⟩
    · rw [if_neg h1] at hs
      by_cases h2 : n ∈ dels
      · rw [if_pos h2] at hs; cases hs
      · rw [if_neg h2] at hs
        by_cases h3 : n = nM
        · exact .inl h3
        · rw [if_neg h3] at hs
          by_cases h4 : n = nT
          · rw [if_pos h4] at hs; cases hs
          · rw [if_neg h4] at hs
            rcases hall n hs with h | h | h | h
            · exact absurd h h3
            · exact absurd h h4
            · exact .inr h
            · exact absurd h h2
end
/- That each effect may be done: what the views say, how many files are made, and how many bytes put. -/
def mayV : Eff → View → Prop
  | .new n, v => v n = none
  | .add n _, v => (v n).isSome = true
  | .syn n, v => (v n).isSome = true
  | .short n k, v => ∃ f, v n = some f ∧ k ≤ f.bytes.length
  | .move n _, v => (v n).isSome = true
  | .gone n, v => (v n).isSome = true
def MaysV : List Eff → View → Prop
  | [], _ => True
  | x :: r, v => mayV x v ∧ MaysV r (x.see v)
def new1 : Eff → Nat | .new _ => 1 | _ => 0
def add1 : Eff → Nat | .add _ b => b.length | _ => 0
def news (xs : List Eff) : Nat := (xs.map new1).sum
def adds (xs : List Eff) : Nat := (xs.map add1).sum
theorem maysV_app {a b : List Eff} {v : View} : MaysV (a ++ b) v ↔ MaysV a v ∧ MaysV b (sees a v) := by
  induction a generalizing v with
  | nil => simp [MaysV, sees]
  | cons x r ih => simp [MaysV, sees_cons, ih, and_assoc]
theorem grown1 {x : Eff} {l : Fs} (ha : Apart l) (h : mayV x (fun k => Disk.look k l)) : (x.on l).length ≤ l.length + new1 x ∧ tot (x.on l) ≤ tot l + add1 x := by
  have fst {n : Nm} (h : (Disk.look n l).isSome = true) : ∃ f, Disk.look n l = some f := Option.isSome_iff_exists.1 h
  cases x with
  | new n =>
    refine ⟨by show (ins n _ l).length ≤ _; rw [Disk.length_ins]; exact Nat.le_refl _, ?_⟩
    show Disk.total _ (ins n _ l) ≤ _
    rw [Disk.total_ins]
    show 0 + _ ≤ _
    unfold tot; omega
  | add n b =>
    obtain ⟨f, hf⟩ := fst h
    refine ⟨by show (upd n (fun f : File => (⟨f.bytes ++ b, f.synced⟩ : File)) l).length ≤ l.length + 0; rw [Disk.length_upd]; exact Nat.le_refl _, ?_⟩
    have e := Disk.total_upd (f := fun f : File => f.bytes.length) (h := fun f => ⟨f.bytes ++ b, f.synced⟩) ha hf
    simp only [List.length_append] at e
    show Disk.total (fun f : File => f.bytes.length) (upd n (fun f : File => (⟨f.bytes ++ b, f.synced⟩ : File)) l) ≤ tot l + b.length
    unfold tot; omega
  | syn n =>
    obtain ⟨f, hf⟩ := fst h
    refine ⟨by show (upd n (fun f : File => (⟨f.bytes, f.bytes.length⟩ : File)) l).length ≤ l.length + 0; rw [Disk.length_upd]; exact Nat.le_refl _, ?_⟩
    have e := Disk.total_upd (f := fun f : File => f.bytes.length) (h := fun f => ⟨f.bytes, f.bytes.length⟩) ha hf
    simp only at e
    show Disk.total (fun f : File => f.bytes.length) (upd n (fun f : File => (⟨f.bytes, f.bytes.length⟩ : File)) l) ≤ tot l + 0
    unfold tot; omega
  | short n k =>
    obtain ⟨f, hf, _⟩ := h
    refine ⟨by show (upd n (fun f : File => (⟨f.bytes.take k, min f.synced k⟩ : File)) l).length ≤ l.length + 0; rw [Disk.length_upd]; exact Nat.le_refl _, ?_⟩
    have e := Disk.total_upd (f := fun f : File => f.bytes.length) (h := fun f => ⟨f.bytes.take k, min f.synced k⟩) ha hf
    simp only [List.length_take] at e
    show Disk.total (fun f : File => f.bytes.length) (upd n (fun f : File => (⟨f.bytes.take k, min f.synced k⟩ : File)) l) ≤ tot l + 0
    unfold tot; omega
  | move n m =>
    obtain ⟨f, hf⟩ := fst h
    have e1 := Disk.length_del ha hf
    have e2 : (del m (del n l)).length ≤ (del n l).length := List.length_filter_le _ _
    have e3 := Disk.total_del (f := fun f : File => f.bytes.length) ha hf
    have e4 := Disk.total_del_le (fun f : File => f.bytes.length) m (del n l)
    show (moved n m l).length ≤ l.length + 0 ∧ Disk.total _ (moved n m l) ≤ tot l + 0
    unfold moved
    rw [hf]
    simp only
    rw [Disk.length_ins, Disk.total_ins]
    unfold tot
    omega
  | gone n =>
    refine ⟨?_, ?_⟩
    · show (del n l).length ≤ l.length + 0
      exact List.length_filter_le _ _
    · show Disk.total _ (del n l) ≤ tot l + 0
      exact Disk.total_del_le _ n l
theorem mays_of {cap : Int} {xs : List Eff} {l : Fs} (ha : Apart l) (h : MaysV xs (fun k => Disk.look k l)) (hn : l.length + news xs < 1000) (hc : ((tot l + adds xs : Nat) : Int) ≤ cap) : Mays cap xs l ∧ (ons xs l).length ≤ l.length + news xs ∧ tot (ons xs l) ≤ tot l + adds xs := by
  induction xs generalizing l with
  | nil => exact ⟨trivial, Nat.le_add_right _ _, Nat.le_add_right _ _⟩
  | cons x r ih =>
    obtain ⟨h1, h2⟩ := h
    have en : news (x :: r) = new1 x + news r := by simp [news]
    have ea : adds (x :: r) = add1 x + adds r := by simp [adds]
    rw [en] at hn ⊢
    rw [ea] at hc ⊢
    have hm : x.may cap l := by
      cases x with
      | new n => exact ⟨h1, by have : new1 (.new n) = 1 := rfl; omega⟩
      | add n b => exact ⟨h1, by have : add1 (.add n b) = b.length := rfl; omega⟩
      | syn n => exact h1
      | short n k => exact h1
      | move n m => exact h1
      | gone n => exact h1
    obtain ⟨g1, g2⟩ := grown1 ha h1
    have hv := look_on hm ha
    rw [← hv] at h2
    obtain ⟨q1, q2, q3⟩ := ih (Disk.Eff.apart hm ha) h2 (by omega) (by omega)
    rw [Disk.ons_cons]
    exact ⟨⟨hm, q1⟩, by omega, by omega⟩
end Go.Proofs.YtkppliljlcihmaaGreatDoor.Seg
namespace Go.Proofs.YtkppliljlcihmaaGreatDoor.Seg
open Go.Proofs.YtkppliljlcihmaaGreatDoor.Mem
open Go.Proofs.YtkppliljlcihmaaGreatDoor.Disk (Nm File St Eff Fs Apart sees sees_cons sees_app trunc cutTo ons Mays tot mapv run run_ends PlanOk look_ons mays_take)
open Go.Proofs.YtkppliljlcihmaaGreatDoor.Rec (Rcd Is okBody)
open Go.Proofs.YtkppliljlcihmaaGreatDoor.Frame (frm)
open Go.Proofs.YtkppliljlcihmaaGreatDoor.Torn (one frames size frm_size)
set_option linter.unusedVariables false

def vw (l : Fs) : View := fun n => Disk.look n l
theorem vw_crash (kp : Int) (l : Fs) : vw (mapv (trunc kp) l) = cutAll kp (vw l) := by
  funext n
  exact Disk.look_mapv (trunc kp) n l
theorem mapv_length (f : File → File) (l : Fs) : (mapv f l).length = l.length := Disk.length_mapv f l
theorem tot_crash (kp : Int) (l : Fs) : tot (mapv (trunc kp) l) ≤ tot l := by
  unfold tot
  rw [Disk.total_mapv]
  exact Disk.total_mono (fun a => by show (a.bytes.take _).length ≤ a.bytes.length; rw [List.length_take]; omega) _
theorem news_take (xs : List Eff) (j : Nat) : news (xs.take j) ≤ news xs := by
  conv => rhs; rw [← List.take_append_drop j xs]
  unfold news
  rw [List.map_append, List.sum_append]
  omega
theorem adds_take (xs : List Eff) (j : Nat) : adds (xs.take j) ≤ adds xs := by
  conv => rhs; rw [← List.take_append_drop j xs]
  unfold adds
  rw [List.map_append, List.sum_append]
  omega
theorem maysV_take {xs : List Eff} {v : View} (h : MaysV xs v) (j : Nat) : MaysV (xs.take j) v := by
  induction xs generalizing v j with
  | nil => simpa using h
  | cons x r ih =>
    rcases j with _ | j
    · exact trivial
    · exact ⟨h.1, ih h.2 j⟩
/- What is so of a disk that is up: its capacity, its files' names, its plan. -/
structure Up (c : Int) (S : St) : Prop where
  cap : S.cap = c
  up : S.down = false
  apart : Apart S.files
  plan : PlanOk S.plan
/- All is done, or the disk went down. -/
theorem deed {c : Int} {S : St} {xs : List Eff} (hU : Up c S) (hm : MaysV xs (vw S.files)) (hn : S.files.length + news xs < 1000) (hc : ((tot S.files + adds xs : Nat) : Int) ≤ c) {P Q : View → Prop} (hP : P (sees xs (vw S.files))) (hQ : ∀ j, j < xs.length → ∀ kp, 0 ≤ kp → Q (cutAll kp (sees (xs.take j) (vw S.files)))) :
    (∃ T, run xs S = (0, T) ∧ Up c T ∧ P (vw T.files) ∧ (S.plan = none → T.plan = none) ∧ T.files.length ≤ S.files.length + news xs ∧ tot T.files ≤ tot S.files + adds xs) ∨
    (∃ T, run xs S = (15, T) ∧ S.plan ≠ none ∧ T.down = true ∧ Up c (Disk.opened T) ∧ Q (vw T.files) ∧ T.files.length ≤ S.files.length + news xs ∧ tot T.files ≤ tot S.files + adds xs) := by
  obtain ⟨h1, h2, h3⟩ := mays_of hU.apart hm hn (by rw [← hU.cap] at hc; exact hc)
  rcases run_ends xs S hU.up hU.plan h1 with ⟨e, pl, g1, g2, g3⟩ | ⟨g0, j, kp, e, g1, g2, g3⟩
  · obtain ⟨q1, q2⟩ := look_ons h1 hU.apart
    refine .inl ⟨_, g1, ⟨hU.cap, rfl, q2, g3⟩, ?_, g2, h2, h3⟩
    show P (fun k => Disk.look k (ons xs S.files))
    rw [q1]
    exact hP
  · have hmj := maysV_take hm j
    have hnj := news_take xs j
    have haj := adds_take xs j
    obtain ⟨k1, k2, k3⟩ := mays_of (cap := S.cap) hU.apart hmj (by omega) (by rw [← hU.cap] at hc; omega)
    obtain ⟨q1, q2⟩ := look_ons k1 hU.apart
    refine .inr ⟨_, g3, g0, rfl, ⟨hU.cap, rfl, Disk.apart_mapv q2 _, fun l k e => by cases e⟩, ?_, ?_, ?_⟩
    · show Q (vw (mapv (trunc kp) (ons (xs.take j) S.files)))
      rw [vw_crash]
      show Q (cutAll kp (fun k => Disk.look k (ons (xs.take j) S.files)))
      rw [q1]
      exact hQ j g1 kp g2
    · show (mapv (trunc kp) (ons (xs.take j) S.files)).length ≤ _
      rw [mapv_length]; omega
    · exact Nat.le_trans (tot_crash kp _) (by omega)
section
variable {v : View} {nums : List Nat} {base : Nat} {begun : Bool} {fr : Nat → List (List Rcd)}
theorem Inv.t (h : Inv v nums base begun fr) : v nT = none := by
  cases e : v nT with
  | none => rfl
  | some f =>
    rcases h.only nT (by rw [e]; rfl) with h1 | ⟨i, _, h1⟩
    · exact absurd h1 t_m
    · exact absurd h1.symm (seg_t i)
theorem Inv.none_ (h : Inv v nums base begun fr) {next : Nat} (hn : ∀ i ∈ nums, i ≠ next) : v (seg next) = none := by
  cases e : v (seg next) with
  | none => rfl
  | some f =>
    rcases h.only (seg next) (by rw [e]; rfl) with h1 | ⟨i, hi, h1⟩
    · exact absurd h1 (seg_m next)
    · exact absurd (seg_inj h1).symm (hn i hi)
theorem ap_mays (h : Inv v nums base begun fr) {i : Nat} (hi : i ∈ nums) (f : List Int) : MaysV (apA i f) v := by
  have h1 := h.segs i hi
  refine ⟨by show (v (seg i)).isSome = true; rw [h1]; rfl, ?_, trivial⟩
  show ((if seg i = seg i then _ else _ : Option File)).isSome = true
  rw [if_pos rfl, h1]; rfl
theorem sw_mays (ht : v nT = none) (B : List Int) : MaysV (sw B) v := by
  refine ⟨ht, ?_, ?_, ?_, trivial⟩
  · simp [mayV, Eff.see]
  · simp [mayV, Eff.see]
  · simp [mayV, Eff.see]
theorem rot_mays (h : Inv v nums base begun fr) {next : Nat} (hn : ∀ i ∈ nums, i ≠ next) (B : List Int) : MaysV (rotA next B) v := by
  refine ⟨h.none_ hn, sw_mays ?_ B⟩
  rw [see_other (x := .new (seg next)) (.inl rfl) (seg_t next).symm]
  exact h.t
theorem goneN_mays {ns : List Nm} (hd : ns.Nodup) (h : ∀ n ∈ ns, (v n).isSome = true) : MaysV (goneN ns) v := by
  induction ns generalizing v with
  | nil => trivial
  | cons n r ih =>
    obtain ⟨h1, h2⟩ := List.nodup_cons.1 hd
    refine ⟨h n List.mem_cons_self, ih h2 (fun m hm => ?_)⟩
    have hmn : m ≠ n := by
      intro e
      subst e
      exact h1 hm
    rw [see_other (x := .gone n) (.inr (.inr (.inr rfl))) hmn]
    exact h m (List.mem_cons_of_mem _ hm)
theorem goneA_N (ns : List Nat) : goneA ns = goneN (ns.map seg) := by
  unfold goneA goneN
  rw [List.map_map]; rfl
theorem nodup_seg {ns : List Nat} (h : ns.Pairwise (· < ·)) : (ns.map seg).Nodup := by
  refine List.pairwise_map.2 (h.imp (fun {a b} hab e => ?_))
  have := seg_inj e
  omega
theorem ad_mays (h : Inv v nums base begun fr) (hN : Nums nums) : MaysV (adA nums base) v := by
  refine maysV_app.2 ⟨sw_mays h.t _, ?_⟩
  rw [goneA_N]
  refine goneN_mays (nodup_seg (hN.rising.filter _)) (fun n hn => ?_)
  obtain ⟨i, hi, rfl⟩ := List.mem_map.1 hn
  rw [sw_seg, h.segs i (mem_below.1 hi).1]; rfl
theorem open_mays (hN : Nums nums) {i : Nat} {A Z : List Int} (hi : i ∈ nums) (ht : v (seg i) = some (full (A ++ Z))) {dels : List Nm} (hd : dels.Nodup) (hv : ∀ n ∈ dels, (v n).isSome = true ∧ n ≠ nT ∧ Off nums n) (base : Nat) (begun torn : Bool) : MaysV (opA (v nT).isSome base nums begun dels torn i A.length) v := by
  have eT := opT_see v
  have tT : sees (opT (v nT).isSome) v nT = none := by rw [eT, if_pos rfl]
  have eM : ∀ n, n ≠ nM → sees (opM base nums begun) (sees (opT (v nT).isSome) v) n = sees (opT (v nT).isSome) v n := by
    intro n hn
    unfold opM
    by_cases h0 : base = 0
    · rw [if_pos h0]; rfl
    · rw [if_neg h0, sw_all, if_neg hn]
      by_cases h2 : n = nT
      · rw [if_pos h2, h2, tT]
      · rw [if_neg h2]
  refine maysV_app.2 ⟨?_, maysV_app.2 ⟨?_, maysV_app.2 ⟨goneN_mays hd (fun n hn => ?_), ?_⟩⟩⟩
  · unfold opT
    split
    · rename_i h1
      exact ⟨h1, trivial⟩
    · trivial
  · unfold opM
    split
    · trivial
    · exact sw_mays tT _
  · obtain ⟨h1, h2, h3⟩ := hv n hn
    rw [eM n h3.1, eT, if_neg h2]; exact h1
  · have e3 : sees (goneN dels) (sees (opM base nums begun) (sees (opT (v nT).isSome) v)) (seg i) = some (full (A ++ Z)) := by
      rw [goneN_see, if_neg (fun hm => (hv _ hm).2.2.2 i hi rfl), eM _ (seg_m i), eT, if_neg (seg_t i)]; exact ht
    unfold opC
    split
    · refine ⟨⟨_, e3, by show A.length ≤ (A ++ Z).length; rw [List.length_append]; omega⟩, ?_, trivial⟩
      simp [mayV, Eff.see, e3]
    · trivial
end
/- How many files, and how many bytes. -/
theorem news_app (a b : List Eff) : news (a ++ b) = news a + news b := by simp [news]
theorem adds_app (a b : List Eff) : adds (a ++ b) = adds a + adds b := by simp [adds]
theorem news_ap (i : Nat) (f : List Int) : news (apA i f) = 0 := rfl
theorem adds_ap (i : Nat) (f : List Int) : adds (apA i f) = f.length := rfl
theorem news_sw (B : List Int) : news (sw B) = 1 := rfl
theorem adds_sw (B : List Int) : adds (sw B) = B.length := by simp [adds, sw, swA, add1]
theorem news_rot (k : Nat) (B : List Int) : news (rotA k B) = 2 := rfl
theorem adds_rot (k : Nat) (B : List Int) : adds (rotA k B) = B.length := by simp [adds, rotA, sw, swA, add1]
theorem news_gone (ns : List Nm) : news (goneN ns) = 0 := by
  induction ns with
  | nil => rfl
  | cons n r ih =>
    have : news (goneN (n :: r)) = 0 + news (goneN r) := by simp [news, goneN, new1]
    omega
theorem adds_gone (ns : List Nm) : adds (goneN ns) = 0 := by
  induction ns with
  | nil => rfl
  | cons n r ih =>
    have : adds (goneN (n :: r)) = 0 + adds (goneN r) := by simp [adds, goneN, add1]
    omega
theorem news_ad (nums : List Nat) (base : Nat) : news (adA nums base) = 1 := by
  unfold adA
  rw [news_app, news_sw, goneA_N, news_gone]
theorem adds_ad (nums : List Nat) (base : Nat) : adds (adA nums base) = (manFile (from_ base nums) 0 false).length := by
  unfold adA
  rw [adds_app, adds_sw, goneA_N, adds_gone]; rfl
theorem flat4 (nums : List Nat) : (nums.flatMap (fun i => Pack.put i 4)).length = 4 * nums.length := by
  induction nums with
  | nil => rfl
  | cons i r ih => rw [List.flatMap_cons, List.length_append, Pack.put_length, ih, List.length_cons]; omega
theorem man_length (nums : List Nat) (base : Nat) (begun : Bool) : (manFile nums base begun).length = 15 + 4 * nums.length := by
  unfold manFile manBody
  rw [Frame.frm_length]
  simp only [List.length_append, Pack.put_length, flat4, List.length_singleton]
  omega
theorem news_open (has : Bool) (base : Nat) (nums : List Nat) (begun : Bool) (dels : List Nm) (torn : Bool) (i n : Nat) : news (opA has base nums begun dels torn i n) ≤ 1 := by
  unfold opA
  rw [news_app, news_app, news_app, news_gone]
  have h1 : news (opT has) = 0 := by unfold opT; split <;> rfl
  have h2 : news (opM base nums begun) ≤ 1 := by
    unfold opM; split
    · exact Nat.zero_le _
    · exact Nat.le_refl _
  have h3 : news (opC torn i n) = 0 := by unfold opC; split <;> rfl
  omega
theorem adds_open (has : Bool) (base : Nat) (nums : List Nat) (begun : Bool) (dels : List Nm) (torn : Bool) (i n : Nat) : adds (opA has base nums begun dels torn i n) ≤ 15 + 4 * nums.length := by
  unfold opA
  rw [adds_app, adds_app, adds_app, adds_gone]
  have h1 : adds (opT has) = 0 := by unfold opT; split <;> rfl
  have h2 : adds (opM base nums begun) ≤ 15 + 4 * nums.length := by
    unfold opM; split
    · exact Nat.zero_le _
    · rw [adds_sw, man_length]; exact Nat.le_refl _
  have h3 : adds (opC torn i n) = 0 := by unfold opC; split <;> rfl
  omega
/- So many names, so many files. -/
theorem files_le {l : Fs} (ha : Apart l) {names : List Nm} (h : ∀ n, (vw l n).isSome = true → n ∈ names) : l.length ≤ names.length := by
  induction names generalizing l with
  | nil =>
    rcases l with _ | ⟨x, r⟩
    · exact Nat.le_refl _
    · have := h x.1 (by show (Disk.look x.1 (x :: r)).isSome = true; unfold Disk.look; rw [if_pos rfl]; rfl)
      cases this
  | cons n r ih =>
    have h1 := ih (Disk.apart_del ha n) (fun m hm => by
      by_cases hmn : m = n
      · subst hmn
        have : vw (Disk.del m l) m = none := Disk.look_del_same
        rw [this] at hm; cases hm
      · have e : vw (Disk.del n l) m = vw l m := Disk.look_del_other hmn l
        rw [e] at hm
        rcases List.mem_cons.1 (h m hm) with h2 | h2
        · exact absurd h2 hmn
        · exact h2)
    have h2 : l.length ≤ (Disk.del n l).length + 1 := by
      cases e : Disk.look n l with
      | none => rw [Disk.del_none e]; omega
      | some f => rw [Disk.length_del ha e]; exact Nat.le_refl _
    rw [List.length_cons]; omega
theorem Inv.files {l : Fs} {nums : List Nat} {base : Nat} {begun : Bool} {fr : Nat → List (List Rcd)} (h : Inv (vw l) nums base begun fr) (ha : Apart l) : l.length ≤ nums.length + 1 := by
  have := files_le ha (names := nM :: nums.map seg) (fun n hn => by
    rcases h.only n hn with h1 | ⟨i, hi, h1⟩
    · rw [h1]; exact List.mem_cons_self
    · rw [h1]; exact List.mem_cons_of_mem _ (List.mem_map_of_mem hi))
  simpa using this
end Go.Proofs.YtkppliljlcihmaaGreatDoor.Seg
namespace Go.Proofs.YtkppliljlcihmaaGreatDoor.Seg
open Go.Proofs.YtkppliljlcihmaaGreatDoor.Mem
open Go.Proofs.YtkppliljlcihmaaGreatDoor.Pack (put num got left shortBy textLen textGot textLeft textShort put_length put_bytes num_put num_append got_front left_front short_front left_bytes got_bytes num_lt got_length_le)
open Go.Proofs.YtkppliljlcihmaaGreatDoor.Frame (frm bad body many bad_frm body_frm many_frm)
set_option linter.unusedVariables false

theorem left_lt {zs : List Int} {k : Nat} (hk : 1 ≤ k) (h : zs ≠ []) : (left zs k).length < zs.length := by
  have := List.length_pos_iff.2 h
  unfold left
  split
  · rw [List.length_drop]; omega
  · exact this
/- Numbers of four bytes each, rising from behind one on, none of them the last one that there is. -/
def segsFrom (last : Nat) (zs : List Int) : Option (List Nat) :=
  if h : zs = [] then some []
  else if num (got zs 4) ≤ last ∨ num (got zs 4) = 4294967295 then none
  else (segsFrom (num (got zs 4)) (left zs 4)).map (num (got zs 4) :: ·)
termination_by zs.length
decreasing_by exact left_lt (by omega) h
theorem segsFrom_nil (last : Nat) : segsFrom last [] = some [] := by rw [segsFrom]; exact dif_pos rfl
theorem segsFrom_bad {last : Nat} {zs : List Int} (h : zs ≠ []) (hb : num (got zs 4) ≤ last ∨ num (got zs 4) = 4294967295) : segsFrom last zs = none := by
  rw [segsFrom, dif_neg h, if_pos hb]
theorem segsFrom_one {last : Nat} {zs : List Int} (h : zs ≠ []) (hb : ¬ (num (got zs 4) ≤ last ∨ num (got zs 4) = 4294967295)) : segsFrom last zs = (segsFrom (num (got zs 4)) (left zs 4)).map (num (got zs 4) :: ·) := by
  rw [segsFrom, dif_neg h, if_neg hb]
theorem num4_lt {zs : List Int} (h : Bytes zs) : num (got zs 4) < 4294967296 := by
  have h1 := num_lt (got_bytes h 4)
  have h2 : 256 ^ (got zs 4).length ≤ 256 ^ 4 := Pack.pow256_le (got_length_le zs 4)
  have h3 : (256 : Nat) ^ 4 = 4294967296 := by decide
  omega
theorem segsFrom_is {last : Nat} {zs : List Int} (hz : Bytes zs) {ns : List Nat} (h : segsFrom last zs = some ns) : ns.Pairwise (· < ·) ∧ (∀ i ∈ ns, last < i ∧ i < 4294967295) ∧ 4 * ns.length ≤ zs.length := by
  induction hn : zs.length using Nat.strongRecOn generalizing last zs ns with
  | _ n ih =>
    by_cases he : zs = []
    · subst he
      rw [segsFrom_nil] at h
      injection h with h
      subst h
      exact ⟨List.Pairwise.nil, (fun i hi => absurd hi List.not_mem_nil), Nat.zero_le _⟩
    · by_cases hb : num (got zs 4) ≤ last ∨ num (got zs 4) = 4294967295
      · rw [segsFrom_bad he hb] at h; cases h
      · rw [segsFrom_one he hb] at h
        obtain ⟨r, hr, rfl⟩ := Option.map_eq_some_iff.1 h
        have hlt := left_lt (k := 4) (by omega) he
        obtain ⟨h1, h2, h3⟩ := ih _ (by rw [← hn]; exact hlt) (left_bytes hz 4) hr rfl
        have h4 := num4_lt hz
        have h5 : 4 ≤ zs.length := by
          rcases Nat.lt_or_ge zs.length 4 with h6 | h6
          · exfalso
            have : got zs 4 = [] := if_neg (by omega)
            rw [this] at hb
            simp [num] at hb
          · exact h6
        have h6 : (left zs 4).length = zs.length - 4 := by unfold left; rw [if_pos h5, List.length_drop]
        refine ⟨List.pairwise_cons.2 ⟨fun i hi => (h2 i hi).1, h1⟩, fun i hi => ?_, by rw [List.length_cons]; omega⟩
        rcases List.mem_cons.1 hi with rfl | hi
        · omega
        · have := h2 i hi; omega
theorem segsFrom_put {last : Nat} {nums : List Nat} (hr : nums.Pairwise (· < ·)) (hi : ∀ i ∈ nums, last < i ∧ i < 4294967295) : segsFrom last (nums.flatMap fun i => put i 4) = some nums := by
  induction nums generalizing last with
  | nil => exact segsFrom_nil last
  | cons i r ih =>
    obtain ⟨h1, h2⟩ := List.pairwise_cons.1 hr
    rw [List.flatMap_cons]
    have hne : put i 4 ++ r.flatMap (fun i => put i 4) ≠ [] := by
      intro e
      have := congrArg List.length e
      rw [List.length_append, put_length] at this
      simp at this
    have hi0 := hi i List.mem_cons_self
    have hg : num (got (put i 4 ++ r.flatMap fun i => put i 4) 4) = i := by
      rw [got_front _ (put_length _ _), num_put]
      exact Nat.mod_eq_of_lt (by omega)
    have hl : left (put i 4 ++ r.flatMap fun i => put i 4) 4 = r.flatMap fun i => put i 4 := left_front _ (put_length _ _)
    rw [segsFrom_one hne (by rw [hg]; omega), hg, hl, ih h2 (fun k hk => ⟨h1 k hk, (hi k (List.mem_cons_of_mem _ hk)).2⟩)]
    rfl
/- What a manifest's bytes tell: its segments, its base, and whether a merge was begun. -/
def manRest (b : List Int) : List Int := left (left (textLeft b) 4) 1
def manShort (b : List Int) : Bool := shortBy (left (textLeft b) 4) 1 (shortBy (textLeft b) 4 (textShort b false))
def manBase (b : List Int) : Nat := num (got (textLeft b) 4)
def manFlag (b : List Int) : Nat := num (got (left (textLeft b) 4) 1)
def manOf (bs : List Int) : Option (List Nat × Nat × Bool) :=
  if bad bs = 0 ∧ many bs = bs.length then
    match segsFrom 0 (textGot (body bs)) with
    | some ns => if ns ≠ [] ∧ manFlag (body bs) ≤ 1 ∧ manShort (body bs) = false ∧ manRest (body bs) = [] then some (ns, manBase (body bs), decide (manFlag (body bs) = 1)) else none
    | none => none
  else none
theorem manOf_is {bs : List Int} (hb : Bytes bs) {ns : List Nat} {base : Nat} {begun : Bool} (h : manOf bs = some (ns, base, begun)) : Nums ns ∧ (∀ i ∈ ns, i < 4294967295) ∧ base < 4294967296 ∧ 4 * ns.length ≤ 65535 := by
  unfold manOf at h
  split at h
  · split at h
    · next ns' hs =>
      split at h
      · next hc =>
        injection h with h
        obtain ⟨rfl, h2⟩ := Prod.mk.inj h
        obtain ⟨rfl, _⟩ := Prod.mk.inj h2
        have hbb := Frame.body_bytes hb
        have ht : Bytes (textGot (body bs)) := got_bytes (left_bytes hbb 2) _
        obtain ⟨h1, h2, h3⟩ := segsFrom_is ht hs
        refine ⟨⟨h1, fun i hi => by have := h2 i hi; omega, hc.1⟩, fun i hi => (h2 i hi).2, num4_lt (left_bytes (left_bytes hbb 2) _), ?_⟩
        have h4 : (textGot (body bs)).length ≤ textLen (body bs) := got_length_le _ _
        have h5 : textLen (body bs) < 65536 := Pack.num_got2_lt hbb
        omega
      · cases h
    · cases h
  · cases h
theorem text_front {n : Nat} {ts : List Int} (hn : ts.length = n) (h : n ≤ 65535) (ys : List Int) : textGot (put n 2 ++ ts ++ ys) = ts ∧ textLeft (put n 2 ++ ts ++ ys) = ys ∧ textShort (put n 2 ++ ts ++ ys) false = false := by
  have e0 : put n 2 ++ ts ++ ys = put n 2 ++ (ts ++ ys) := List.append_assoc ..
  have e1 : textLen (put n 2 ++ (ts ++ ys)) = n := by
    unfold textLen
    rw [got_front _ (put_length _ _), num_put]
    exact Nat.mod_eq_of_lt (by omega)
  rw [e0]
  unfold textGot textLeft textShort
  rw [e1, left_front _ (put_length _ _)]
  exact ⟨got_front _ hn, left_front _ hn, by rw [short_front _ hn, short_front _ (put_length _ _)]⟩
theorem manBody_length (nums : List Nat) (base : Nat) (begun : Bool) : (manBody nums base begun).length = 7 + 4 * nums.length := by
  unfold manBody
  simp only [List.length_append, put_length, flat4, List.length_singleton]
  omega
theorem flat4_bytes (nums : List Nat) : Bytes (nums.flatMap fun i => put i 4) := by
  intro z hz
  obtain ⟨i, _, h⟩ := List.mem_flatMap.1 hz
  exact put_bytes _ _ z h
theorem manBody_bytes (nums : List Nat) (base : Nat) (begun : Bool) : Bytes (manBody nums base begun) := by
  unfold manBody
  refine bytes_append (bytes_append (bytes_append (put_bytes _ _) (flat4_bytes nums)) (put_bytes _ _)) ?_
  intro z hz
  rw [List.mem_singleton] at hz
  cases begun <;> simp at hz <;> omega
theorem manOf_put {nums : List Nat} (hN : Nums nums) (hi : ∀ i ∈ nums, i < 4294967295) (hl : nums.length ≤ 1000) {base : Nat} (hb : base < 4294967296) (begun : Bool) : manOf (manFile nums base begun) = some (nums, base, begun) := by
  have hL := manBody_length nums base begun
  have h1 : 1 ≤ (manBody nums base begun).length := by omega
  have h2 : (manBody nums base begun).length ≤ 20000 := by omega
  have e1 := bad_frm h1 h2 []
  have e2 := body_frm h1 h2 []
  have e3 := many_frm h1 h2 []
  rw [List.append_nil] at e1 e2 e3
  have e4 : (manFile nums base begun).length = (manBody nums base begun).length + 8 := Frame.frm_length _
  have e5 : manBody nums base begun = put (4 * nums.length) 2 ++ (nums.flatMap fun i => put i 4) ++ (put base 4 ++ [if begun then 1 else 0]) := by
    unfold manBody; rw [List.append_assoc]
  obtain ⟨t1, t2, t3⟩ := text_front (flat4 nums) (by omega) (put base 4 ++ [if begun then 1 else 0])
  rw [← e5] at t1 t2 t3
  have l1 : left (put base 4 ++ [if begun then (1 : Int) else 0]) 4 = [if begun then 1 else 0] := left_front _ (put_length _ _)
  have b1 : manBase (manBody nums base begun) = base := by
    unfold manBase
    rw [t2, got_front _ (put_length _ _), num_put]
    exact Nat.mod_eq_of_lt (by omega)
  have b2 : manFlag (manBody nums base begun) = if begun then 1 else 0 := by
    unfold manFlag
    rw [t2, l1]
    cases begun <;> rfl
  have b3 : manShort (manBody nums base begun) = false := by
    unfold manShort
    rw [t2, t3, l1, short_front _ (put_length _ _)]
    cases begun <;> rfl
  have b4 : manRest (manBody nums base begun) = [] := by
    unfold manRest
    rw [t2, l1]
    cases begun <;> rfl
  have s1 := segsFrom_put (last := 0) hN.rising (fun i h => ⟨by have := hN.pos i h; omega, hi i h⟩)
  unfold manOf
  rw [show manFile nums base begun = frm (manBody nums base begun) from rfl] at e4 ⊢
  rw [if_pos ⟨e1, by rw [e3, e4]⟩, e2, t1, s1]
  simp only
  rw [if_pos ⟨hN.some_, by rw [b2]; cases begun <;> simp, b3, b4⟩, b1, b2]
  cases begun <;> rfl
/- Rising numbers: those ahead of one are the first ones. -/
theorem take_below {nums : List Nat} (h : nums.Pairwise (· < ·)) (base : Nat) : nums.take (nums.countP fun i => decide (i < base)) = below base nums ∧ nums.drop (nums.countP fun i => decide (i < base)) = from_ base nums := by
  unfold below from_
  induction nums with
  | nil => exact ⟨rfl, rfl⟩
  | cons i r ih =>
    obtain ⟨h1, h2⟩ := List.pairwise_cons.1 h
    obtain ⟨g1, g2⟩ := ih h2
    by_cases hi : i < base
    · rw [List.countP_cons_of_pos (by simpa using hi), List.take_succ_cons, List.drop_succ_cons, g1, g2, List.filter_cons_of_pos (by simpa using hi), List.filter_cons_of_neg (by simp; omega)]
      exact ⟨rfl, rfl⟩
    · have hall : ∀ k ∈ r, base ≤ k := fun k hk => by have := h1 k hk; omega
      have c0 : r.countP (fun i => decide (i < base)) = 0 := List.countP_eq_zero.2 (fun k hk => by have := hall k hk; simp; omega)
      rw [List.countP_cons_of_neg (by simpa using hi), c0, List.take_zero, List.drop_zero, List.filter_cons_of_neg (by simpa using hi), List.filter_cons_of_pos (by simp; omega)]
      refine ⟨(List.filter_eq_nil_iff.2 (fun k hk => by have := hall k hk; simp; omega)).symm, ?_⟩
      rw [List.filter_eq_self.2 (fun k hk => by have := hall k hk; simp; omega)]
end Go.Proofs.YtkppliljlcihmaaGreatDoor.Seg
