/- DiskKeeps' one file, step by step; and a slice of deeds that came in. -/
import Derived.Test.YtiaaadeenbjciaaDiskUp
import Derived.Test.YtiaaadeenbjciaaDiskSums
namespace Go.Proofs.Ytiaaadeenbjciaa.Disk
open Go.Proofs.Ytiaaadeenbjciaa.Mem
open Go.ChangeShapes Go.WideShapes Go.ChangeAt Go.RowKit
set_option linter.unusedVariables false
/- A disk with one file, f. -/
def KS (c : Int) (f : File) (e : Int) (pl : Option (Int × Int)) (d : Bool) : St := ⟨c, [([102], f)], e, pl, d⟩
theorem name_f : (⟨#[102]⟩ : ByteArray).data.toList = [102] := rfl
theorem used_KS (c : Int) (f : File) (e : Int) (pl : Option (Int × Int)) (d : Bool) : used (KS c f e pl d) = f.bytes.length := by
  unfold used KS total; simp
theorem ks_create (c : Int) : create (fresh c) [102] = (0, KS c ⟨[], 0⟩ (wrap64 (0 + 1)) none false) := rfl
theorem ks_full {c : Int} {x z : List Int} {s : Nat} {e : Int} (h : c < ((x.length + z.length : Nat) : Int)) : append (KS c ⟨x, s⟩ e none false) [102] z = (12, KS c ⟨x, s⟩ e none false) := by
  unfold append
  rw [used_KS, if_neg (by simp [KS]), if_neg (by simp [KS, look])]
  exact if_pos h
theorem ks_append {c : Int} {x z : List Int} {s : Nat} {e : Int} (h : ((x.length + z.length : Nat) : Int) ≤ c) : append (KS c ⟨x, s⟩ e none false) [102] z = (0, KS c ⟨x ++ z, s⟩ (wrap64 (e + 1)) none false) := by
  unfold append
  rw [used_KS, if_neg (by simp [KS]), if_neg (by simp [KS, look])]
  have h2 : ¬ c < ((x.length + z.length : Nat) : Int) := by omega
  exact (if_neg h2).trans rfl
theorem ks_sync {c : Int} {x : List Int} {s : Nat} {e : Int} : sync (KS c ⟨x, s⟩ e none false) [102] = (0, KS c ⟨x, x.length⟩ (wrap64 (e + 1)) none false) := rfl
theorem ks_plan {c : Int} {f : File} {e : Int} (k : Int) : planned (KS c f e none false) 0 k = KS c f e (some (0, max k 0)) false := rfl
theorem ks_crash {c : Int} {f : File} {e : Int} (k : Int) : sync (KS c f e (some (0, k)) false) [102] = (15, KS c (trunc k f) e none true) := rfl
theorem ks_open {c : Int} {f : File} {e : Int} : opened (KS c f e none true) = KS c f e none false := rfl
theorem ks_trunc (A Z : List Int) (keep : Int) (n : Nat) (hn : (n : Int) = min (max keep 0) (Z.length : Int)) : trunc (max keep 0) ⟨A ++ Z, A.length⟩ = ⟨A ++ Z.take n, A.length + n⟩ := by
  have h : cutTo (max keep 0) ⟨A ++ Z, A.length⟩ = A.length + n := by
    unfold cutTo
    simp only [List.length_append]
    omega
  unfold trunc
  rw [h]
  simp only [List.take_length_add_append]
theorem ks_len {c : Int} {f : File} {e : Int} : lenOf (KS c f e none false) [102] = ((f.bytes.length : Int), 0) := rfl
theorem ks_read {c : Int} {f : File} {e : Int} (h : f.bytes.length ≤ 1000000) : readOf (KS c f e none false) [102] 0 (f.bytes.length : Int) = (0, f.bytes) := by
  unfold readOf
  rw [if_neg (by simp [KS])]
  show (if _ then _ else _) = _
  rw [if_neg (by simp)]
  simp
section
variable {B : Nat} {w w1 : World} {p : Nat} {c e : Int}
theorem k_create (h : Mine B w p (fresh c)) :
    Calls Try.prog 9 #[.pointer (some ⟨p, 0, none⟩), .string ⟨#[102]⟩] w fun x w' => x = .returned .nilIface ∧ Mine B w' p (KS c ⟨[], 0⟩ (wrap64 (0 + 1)) none false) ∧ Below B w w' := by
  have h2 := mine_create h (by show 0 ≤ _; omega) ⟨#[102]⟩ (by decide)
  rw [name_f, ks_create] at h2
  exact h2
theorem k_full {x z : List Int} {s : Nat} (h : Mine B w p (KS c ⟨x, s⟩ e none false)) (a : Option Addr) (len cap : Nat) (hr : Row w a len z) (hnil : a = none → cap = 0) (hna : ∀ q, a = some q → 0 < len → q.block < B) (hu : x.length + len ≤ 1000000) (hc : c < ((x.length + len : Nat) : Int)) :
    Calls Try.prog 10 #[.pointer (some ⟨p, 0, none⟩), .string ⟨#[102]⟩, .slice a len cap] w fun y w' => y = .returned (.iface 52 (.int .i64 12)) ∧ Below B w w' := by
  have h2 := mine_append h (Below.refl _ w) ⟨#[102]⟩ (by decide) a len cap z hr hnil (fun q hq hn => .inl (hna q hq hn)) (by rw [used_KS]; simp only; omega)
  rw [name_f, ks_full (by rw [hr.1]; exact hc)] at h2
  exact h2.mono fun y w' ⟨h1, _, h3⟩ => ⟨h1, h3⟩
theorem k_append {x z : List Int} {s : Nat} (h : Mine B w p (KS c ⟨x, s⟩ e none false)) (a : Option Addr) (len cap : Nat) (hr : Row w a len z) (hnil : a = none → cap = 0) (hna : ∀ q, a = some q → 0 < len → q.block < B) (hu : x.length + len ≤ 1000000) (hc : ((x.length + len : Nat) : Int) ≤ c) :
    Calls Try.prog 10 #[.pointer (some ⟨p, 0, none⟩), .string ⟨#[102]⟩, .slice a len cap] w fun y w' => y = .returned .nilIface ∧ Mine B w' p (KS c ⟨x ++ z, s⟩ (wrap64 (e + 1)) none false) ∧ Below B w w' := by
  have h2 := mine_append h (Below.refl _ w) ⟨#[102]⟩ (by decide) a len cap z hr hnil (fun q hq hn => .inl (hna q hq hn)) (by rw [used_KS]; simp only; omega)
  rw [name_f, ks_append (by rw [hr.1]; exact hc)] at h2
  exact h2
theorem k_sync {x : List Int} {s : Nat} (h : Mine B w p (KS c ⟨x, s⟩ e none false)) (hu : x.length ≤ 1000000) :
    Calls Try.prog 11 #[.pointer (some ⟨p, 0, none⟩), .string ⟨#[102]⟩] w fun y w' => y = .returned .nilIface ∧ Mine B w' p (KS c ⟨x, x.length⟩ (wrap64 (e + 1)) none false) ∧ Below B w w' := by
  have h2 := mine_sync h (by rw [used_KS]; simp only; omega) ⟨#[102]⟩ (by decide)
  rw [name_f, ks_sync] at h2
  exact h2
theorem k_plan {f : File} (h : Mine B w p (KS c f e none false)) (k : Int) (hk : k ≤ 9223372036854775807) :
    Calls Try.prog 15 #[.pointer (some ⟨p, 0, none⟩), .int .i64 0, .int .i64 k] w fun y w' => y = .returned (.tuple #[]) ∧ Mine B w' p (KS c f e (some (0, max k 0)) false) ∧ Below B w w' := by
  have h2 := mine_plan h 0 k (by decide) hk
  rw [ks_plan] at h2
  exact h2
theorem k_crash {f : File} {k : Int} (h : Mine B w p (KS c f e (some (0, k)) false)) (hu : f.bytes.length ≤ 1000000) :
    Calls Try.prog 11 #[.pointer (some ⟨p, 0, none⟩), .string ⟨#[102]⟩] w fun y w' => y = .returned (.iface 52 (.int .i64 15)) ∧ Mine B w' p (KS c (trunc k f) e none true) ∧ Below B w w' := by
  have h2 := mine_sync h (by rw [used_KS]; omega) ⟨#[102]⟩ (by decide)
  rw [name_f, ks_crash] at h2
  exact h2
theorem k_open {f : File} (h : Mine B w p (KS c f e none true)) :
    Calls Try.prog 17 #[.pointer (some ⟨p, 0, none⟩)] w fun y w' => y = .returned (.tuple #[]) ∧ Mine B w' p (KS c f e none false) ∧ Below B w w' := by
  have h2 := mine_open h
  rw [ks_open] at h2
  exact h2
theorem k_read {f : File} (h : Mine B w p (KS c f e none false)) (N : Nat) (hN : f.bytes.length = N) (hu : N ≤ 1000000) (k : Int) (hk : k = (N : Int)) :
    Calls Try.prog 19 #[.pointer (some ⟨p, 0, none⟩), .string ⟨#[102]⟩, .int .i64 0, .int .i64 k] w fun y w' => ∃ a q, y = .returned (.tuple #[.slice a N q, .nilIface]) ∧ Row w' a N f.bytes ∧ Mine B w' p (KS c f e none false) ∧ Below B w w' := by
  subst hN
  have h2 := mine_read h (by rw [used_KS]; omega) ⟨#[102]⟩ (by decide) 0 k (by decide)
  rw [name_f, hk, ks_read hu] at h2
  rw [hk]
  exact h2
theorem k_len {f : File} (h : Mine B w p (KS c f e none false)) (N : Nat) (hN : f.bytes.length = N) :
    Calls Try.prog 40 #[.pointer (some ⟨p, 0, none⟩), .string ⟨#[102]⟩] w fun y w' => y = .returned (.tuple #[.int .i64 (N : Int), .nilIface]) ∧ w = w' := by
  subst hN
  have h2 := mine_len h ⟨#[102]⟩ (by decide)
  rw [name_f, ks_len] at h2
  exact h2
theorem k_down {f : File} (h : Mine B w p (KS c f e none true)) :
    Calls Try.prog 30 #[.pointer (some ⟨p, 0, none⟩)] w fun y w' => y = .returned (.bool true) ∧ w = w' := mine_down h
theorem Mine.good {S : St} (h : Mine B w p S) : Good S := by obtain ⟨F, ⟨_, _, _, _, hA, _⟩, _⟩ := h; exact hA.good
end
/- What holds at the head of DiskKeeps' loop. -/
def KRel (B : Nat) (w : World) (p : Nat) (c : Int) (ll : Nat) (i : Value) (wr : World) : Prop :=
  ∃ k : Nat, k ≤ ll ∧ i = .int .i64 (k : Int) ∧ ∃ S, Mine B wr p S ∧ S.cap = c ∧ used S ≤ 2000 + 1000 * k ∧ (used S : Int) ≤ c ∧ Below B w wr
theorem krel_step {B : Nat} {w w3 : World} {p : Nat} {c : Int} {ll k : Nat} {S : St} {n : Nm} {z : List Int} (hk : k < ll) (hc : S.cap = c) (hu : used S ≤ 2000 + 1000 * k) (huc : (used S : Int) ≤ c) (hap : Apart S.files) (hap2 : Apart (create S n).2.files) (hz : z.length ≤ 1000)
    (hM : Mine B w3 p (append (create S n).2 n z).2) (hb : Below B w w3) : KRel B w p c ll (.int .i64 ((k : Int) + 1)) w3 := by
  have g1 := grows_create S n
  have g2 := grows_append (create S n).2 n z hap2
  refine ⟨k + 1, by omega, by rw [Int.natCast_add]; rfl, _, hM, g2.1.trans (g1.1.trans hc), ?_, ?_, hb⟩
  · have := g1.2.1
    have := g2.2.1
    omega
  · have h1 := g1.2.2 (by rw [hc]; exact huc)
    have h2 := g2.2.2 h1
    rw [g2.1, g1.1, hc] at h2
    exact h2
/- A deed, as it lies in the slice that came in. -/
structure DeedV where
  what : Int
  name : ByteArray
  to : ByteArray
  ba : Option Addr
  blen : Nat
  bcap : Nat
  bs : List Int
  n : Int
  m : Int
structure DeedAt (w : World) (B b off : Nat) (d : DeedV) : Prop where
  c0 : w.cell? ⟨b, off, none⟩ = some (.int .i64 d.what)
  c1 : w.cell? ⟨b, off + 1, none⟩ = some (.string d.name)
  c2 : w.cell? ⟨b, off + 2, none⟩ = some (.string d.to)
  c3 : w.cell? ⟨b, off + 3, none⟩ = some (.slice d.ba d.blen d.bcap)
  c4 : w.cell? ⟨b, off + 4, none⟩ = some (.int .i64 d.n)
  c5 : w.cell? ⟨b, off + 5, none⟩ = some (.int .i64 d.m)
  row : Row w d.ba d.blen d.bs
  nil : d.ba = none → d.bcap = 0
  low : ∀ q, d.ba = some q → 0 < d.blen → q.block < B
  name : d.name.size ≤ 9223372036854775807
  to : d.to.size ≤ 9223372036854775807
  blen : d.blen ≤ 9223372036854775807
  what : -9223372036854775808 ≤ d.what ∧ d.what ≤ 9223372036854775807
  n : -9223372036854775808 ≤ d.n ∧ d.n ≤ 9223372036854775807
  m : -9223372036854775808 ≤ d.m ∧ d.m ≤ 9223372036854775807
theorem DeedAt.below {w w' : World} {B b off : Nat} {d : DeedV} (h : DeedAt w B b off d) (hb : Below B w w') (hlt : b < B) : DeedAt w' B b off d :=
  ⟨(hb.cell (p := ⟨b, off, none⟩) hlt).trans h.c0, (hb.cell (p := ⟨b, off + 1, none⟩) hlt).trans h.c1, (hb.cell (p := ⟨b, off + 2, none⟩) hlt).trans h.c2, (hb.cell (p := ⟨b, off + 3, none⟩) hlt).trans h.c3, (hb.cell (p := ⟨b, off + 4, none⟩) hlt).trans h.c4, (hb.cell (p := ⟨b, off + 5, none⟩) hlt).trans h.c5,
    h.row.but (But.of_below hb) (fun q hq hn hge => by have := h.low q hq hn; omega), h.nil, h.low, h.name, h.to, h.blen, h.what, h.n, h.m⟩
/- A slice of deeds. -/
def Deeds (w : World) (B : Nat) (a : Option Addr) (len : Nat) : Prop := 0 < len → ∃ b off, a = some ⟨b, off, none⟩ ∧ b < B ∧ ∀ i, i < len → ∃ d, DeedAt w B b (off + i * 6) d
theorem Deeds.below {w w' : World} {B : Nat} {a : Option Addr} {len : Nat} (h : Deeds w B a len) (hb : Below B w w') : Deeds w' B a len := by
  intro hn
  obtain ⟨b, off, ha, hlt, hi⟩ := h hn
  refine ⟨b, off, ha, hlt, fun i hil => ?_⟩
  obtain ⟨d, hd⟩ := hi i hil
  exact ⟨d, hd.below hb hlt⟩
end Go.Proofs.Ytiaaadeenbjciaa.Disk
