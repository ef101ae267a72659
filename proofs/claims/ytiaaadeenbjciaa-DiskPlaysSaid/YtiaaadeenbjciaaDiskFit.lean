/- What each call leaves fits: no more files than calls, no more bytes than came, no longer name; and its error's number. -/
import Derived.Test.YtiaaadeenbjciaaRefDoAll
import Derived.Test.YtiaaadeenbjciaaDiskSums
namespace Go.Proofs.Ytiaaadeenbjciaa.Disk
open Go.Proofs.Ytiaaadeenbjciaa.Mem
open Go.RowKit
set_option linter.unusedVariables false
def Fit (k : Nat) (S : St) : Prop := used S ≤ 1000 * k ∧ S.files.length ≤ k ∧ ∀ x ∈ S.files, x.1.length ≤ 100
theorem Fit.succ {k : Nat} {S : St} (h : Fit k S) : Fit (k + 1) S := ⟨by have := h.1; omega, by have := h.2.1; omega, h.2.2⟩
theorem mem_upd {α : Type} {n : Nm} {f : α → α} {l : List (Nm × α)} {x : Nm × α} (h : x ∈ upd n f l) : ∃ y ∈ l, y.1 = x.1 := by
  obtain ⟨y, hy, e⟩ := List.mem_map.1 h
  refine ⟨y, hy, ?_⟩
  rw [← e]
  split <;> rfl
theorem fit_effect {k : Nat} {S : St} {f : St → St} (h : Fit k S) (h2 : Fit (k + 1) (f (stepS S))) : Fit (k + 1) (effect S f).2 ∧ 0 ≤ (effect S f).1 ∧ (effect S f).1 ≤ 15 := by
  refine effect_rec (P := fun x => Fit (k + 1) x.2 ∧ 0 ≤ x.1 ∧ x.1 ≤ 15) (fun kp _ => ⟨⟨?_, ?_, ?_⟩, show (0 : Int) ≤ 15 by decide, show (15 : Int) ≤ 15 by decide⟩) (fun _ => ⟨h2, show (0 : Int) ≤ 0 by decide, show (0 : Int) ≤ 15 by decide⟩)
  · have := used_crash kp S; have := h.1
    show used (crash kp S) ≤ _
    omega
  · show (mapv (trunc kp) S.files).length ≤ _
    rw [length_mapv]; have := h.2.1; omega
  · intro x hx
    obtain ⟨y, hy, rfl⟩ := List.mem_map.1 (show x ∈ mapv (trunc kp) S.files from hx)
    exact h.2.2 y hy
theorem used_set (S : St) (fs : List (Nm × File)) : used { S with files := fs } = total (fun f : File => f.bytes.length) fs := rfl
theorem same_num {k : Nat} {S : St} (h : Fit k S) (n : Int) (h0 : 0 ≤ n) (h1 : n ≤ 15) : Fit (k + 1) ((n, S) : Int × St).2 ∧ 0 ≤ ((n, S) : Int × St).1 ∧ ((n, S) : Int × St).1 ≤ 15 := ⟨h.succ, h0, h1⟩
theorem total_upd_le {f : File → Nat} {g : File → File} {n : Nm} (hg : ∀ x, f (g x) ≤ f x) : ∀ l : List (Nm × File), total f (upd n g l) ≤ total f l
  | [] => Nat.le_refl _
  | x :: r => by
    have ih := total_upd_le (n := n) hg r
    unfold total upd at ih ⊢
    simp only [List.map_cons, List.sum_cons]
    split
    · have := hg x.2; simp only at *; omega
    · omega
theorem fit_upd {k : Nat} {S : St} {n : Nm} {g : File → File} (h : Fit k S) (hg : total (fun f : File => f.bytes.length) (upd n g S.files) ≤ 1000 * (k + 1)) : Fit (k + 1) { stepS S with files := upd n g (stepS S).files } :=
  ⟨hg, by show (upd n g S.files).length ≤ _; rw [length_upd]; have := h.2.1; omega, fun x hx => by obtain ⟨y, hy, e⟩ := mem_upd (show x ∈ upd n g S.files from hx); rw [← e]; exact h.2.2 y hy⟩
section
variable {k : Nat} {S : St} {n m : Nm}
theorem fit0 (h : Fit k S) (hn : n.length ≤ 100) : Fit (k + 1) (create S n).2 ∧ 0 ≤ (create S n).1 ∧ (create S n).1 ≤ 15 := by
  unfold create
  split
  · exact same_num h 15 (by decide) (by decide)
  · split
    · exact same_num h 6 (by decide) (by decide)
    · split
      · exact same_num h 12 (by decide) (by decide)
      · refine fit_effect h ⟨?_, ?_, ?_⟩
        · show total _ (ins n ⟨[], 0⟩ S.files) ≤ _
          rw [total_ins]
          have := h.1
          unfold used at this
          show 0 + _ ≤ _
          omega
        · show (ins n ⟨[], 0⟩ S.files).length ≤ _
          rw [length_ins]; have := h.2.1; omega
        · intro x hx
          rcases mem_ins.1 (show x ∈ ins n ⟨[], 0⟩ S.files from hx) with rfl | hx
          · exact hn
          · exact h.2.2 x hx
theorem fit1 (h : Fit k S) (z : List Int) (hz : z.length ≤ 1000) (ha : Apart S.files) : Fit (k + 1) (append S n z).2 ∧ 0 ≤ (append S n z).1 ∧ (append S n z).1 ≤ 15 := by
  unfold append
  split
  · exact same_num h 15 (by decide) (by decide)
  · split
    · exact same_num h 5 (by decide) (by decide)
    · split
      · exact same_num h 12 (by decide) (by decide)
      · next h1 h2 h3 =>
        refine fit_effect h (fit_upd h ?_)
        rcases hl : look n S.files with _ | f
        · rw [hl] at h2; exact absurd rfl h2
        · have h4 := total_upd (f := fun f : File => f.bytes.length) (h := fun f => ⟨f.bytes ++ z, f.synced⟩) ha hl
          simp only [List.length_append] at h4
          have := h.1
          unfold used at this
          omega
theorem fit2 (h : Fit k S) : Fit (k + 1) (sync S n).2 ∧ 0 ≤ (sync S n).1 ∧ (sync S n).1 ≤ 15 := by
  unfold sync
  split
  · exact same_num h 15 (by decide) (by decide)
  · split
    · exact same_num h 5 (by decide) (by decide)
    · refine fit_effect h (fit_upd h ?_)
      have h1 := total_upd_le (f := fun f : File => f.bytes.length) (g := fun f => ⟨f.bytes, f.bytes.length⟩) (n := n) (fun x => Nat.le_refl _) S.files
      have := h.1
      unfold used at this
      omega
theorem fit3 (h : Fit k S) (q : Int) : Fit (k + 1) (cut S n q).2 ∧ 0 ≤ (cut S n q).1 ∧ (cut S n q).1 ≤ 15 := by
  unfold cut
  split
  · exact same_num h 15 (by decide) (by decide)
  · split
    · exact same_num h 5 (by decide) (by decide)
    · split
      · exact same_num h 1 (by decide) (by decide)
      · refine fit_effect h (fit_upd h ?_)
        have h1 := total_upd_le (f := fun f : File => f.bytes.length) (g := fun f => ⟨f.bytes.take q.toNat, min f.synced q.toNat⟩) (n := n) (fun x => by simp only [List.length_take]; omega) S.files
        have := h.1
        unfold used at this
        omega
theorem fit_del (h : Fit k S) (n : Nm) : Fit k { S with files := del n S.files } := by
  refine ⟨?_, ?_, fun x hx => h.2.2 x (mem_del.1 (show x ∈ del n S.files from hx)).1⟩
  · have h1 := total_del_le (fun f : File => f.bytes.length) n S.files
    have := h.1
    unfold used at this
    show total _ (del n S.files) ≤ _
    omega
  · have := List.length_filter_le (fun x : Nm × File => decide (x.1 ≠ n)) S.files
    show (del n S.files).length ≤ _
    have h2 := h.2.1
    unfold del
    omega
theorem fit4 (h : Fit k S) (ha : Apart S.files) (hm : m.length ≤ 100) : Fit (k + 1) (rename S n m).2 ∧ 0 ≤ (rename S n m).1 ∧ (rename S n m).1 ≤ 15 := by
  unfold rename
  split
  · exact same_num h 15 (by decide) (by decide)
  · split
    · exact same_num h 5 (by decide) (by decide)
    · next h1 h2 =>
      refine fit_effect h ?_
      rcases hl : look n S.files with _ | f
      · rw [hl] at h2; exact absurd rfl h2
      · have e1 : moved n m S.files = ins m f (del m (del n S.files)) := by unfold moved; rw [hl]
        have h3 := fit_del (fit_del h n) m
        show Fit (k + 1) { stepS S with files := moved n m S.files }
        rw [e1]
        refine ⟨?_, ?_, ?_⟩
        · rw [used_set, total_ins]
          have h4 := total_del (f := fun f : File => f.bytes.length) ha hl
          have h5 := total_del_le (fun f : File => f.bytes.length) m (del n S.files)
          have := h.1
          unfold used at this
          omega
        · show (ins m f (del m (del n S.files))).length ≤ _
          rw [length_ins]
          have := h3.2.1
          simp only at this
          omega
        · intro x hx
          rcases mem_ins.1 (show x ∈ ins m f (del m (del n S.files)) from hx) with rfl | hx
          · exact hm
          · exact h3.2.2 x hx
theorem fit5 (h : Fit k S) : Fit (k + 1) (delete S n).2 ∧ 0 ≤ (delete S n).1 ∧ (delete S n).1 ≤ 15 := by
  unfold delete
  split
  · exact same_num h 15 (by decide) (by decide)
  · split
    · exact same_num h 5 (by decide) (by decide)
    · exact fit_effect h (fit_del (S := stepS S) h n).succ
end
/- A disk and the document's, in states of their own, that share no block. -/
structure TwinAt (B : Nat) (w : World) (p rp : Nat) (S T : St) (F G : Nat → Prop) : Prop where
  left : Has w p S F
  right : RHas w rp T G
  apart : ∀ k, F k → ¬ G k
  lowF : ∀ k, F k → B ≤ k
  lowG : ∀ k, G k → B ≤ k
section
variable {B : Nat} {w w' : World} {p rp : Nat} {S T S' T' : St} {F G X : Nat → Prop}
theorem Has.ltF (h : Has w p S F) : ∀ k, F k → k < w.heap.size := by obtain ⟨_, _, _, _, _, _, h3⟩ := h; exact h3
theorem RHas.ltG (h : RHas w rp T G) : ∀ k, G k → k < w.heap.size := by obtain ⟨_, _, _, _, _, _, _, h3⟩ := h; exact h3
theorem TwinAt.but (h : TwinAt B w p rp S T F G) (hb : But X w w') (hF : ∀ k, F k → ¬ X k) (hG : ∀ k, G k → ¬ X k) : TwinAt B w' p rp S T F G :=
  ⟨h.left.but hb hF, h.right.but hb hG, h.apart, h.lowF, h.lowG⟩
theorem TwinAt.new (h : TwinAt B w p rp S T F G) (hb : Below w.heap.size w w') : TwinAt B w' p rp S T F G :=
  h.but (But.of_below hb) (fun k hk hge => by have := h.left.ltF k hk; omega) (fun k hk hge => by have := h.right.ltG k hk; omega)
theorem TwinAt.goL (h : TwinAt B w p rp S T F G) (h1 : Has w' p S' (grow F w w')) (h2 : But F w w') (hB : B ≤ w.heap.size) : TwinAt B w' p rp S' T (grow F w w') G ∧ Below B w w' := by
  refine ⟨⟨h1, h.right.but h2 (fun k hk hf => h.apart k hf hk), fun k hk hg => ?_, fun k hk => ?_, h.lowG⟩, h2.below hB h.lowF⟩
  · rcases hk with hk | hk
    · exact h.apart k hk hg
    · have := h.right.ltG k hg; omega
  · rcases hk with hk | hk
    · exact h.lowF k hk
    · omega
theorem TwinAt.goR (h : TwinAt B w p rp S T F G) (h1 : RHas w' rp T' (grow G w w')) (h2 : But G w w') (hB : B ≤ w.heap.size) : TwinAt B w' p rp S T' F (grow G w w') ∧ Below B w w' := by
  refine ⟨⟨h.left.but h2 (fun k hk hg => h.apart k hk hg), h1, fun k hk hg => ?_, h.lowF, fun k hk => ?_⟩, h2.below hB h.lowG⟩
  · rcases hg with hg | hg
    · exact h.apart k hk hg
    · have := h.left.ltF k hk; omega
  · rcases hk with hk | hk
    · exact h.lowG k hk
    · omega
theorem TwinAt.good (h : TwinAt B w p rp S T F G) : Good S := by obtain ⟨_, _, _, _, hA, _⟩ := h.left; exact hA.good
end
end Go.Proofs.Ytiaaadeenbjciaa.Disk
