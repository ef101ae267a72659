/- Rows of records: what lies in them, and the calls that make and ask for bytes, of any kind. -/
import Derived.Test.YtkiagflpjloliaaRecPutA
import Derived.Test.YtkiagflpjloliaaRecPutB
import Derived.Test.YtkiagflpjloliaaRecPutC
import Derived.Test.YtkiagflpjloliaaRecBytesA
import Derived.Test.YtkiagflpjloliaaRecBytesB
import Derived.Test.YtkiagflpjloliaaRecBytesC
import Derived.Test.YtkiagflpjloliaaRecMay
import Derived.Test.YtkiagflpjloliaaBlk
namespace Go.Proofs.Ytkiagflpjloliaa.Rec
open Go.Proofs.Ytkiagflpjloliaa.Mem Go.Proofs.Ytkiagflpjloliaa.Pack
open Go.ChangeShapes Go.WideShapes Go.ChangeAt Go.RowKit
set_option linter.unusedVariables false
set_option linter.unusedSimpArgs false

theorem rput_any (r : Rcd) (hm : May r) (hi : Is r) (v : Value) (len : Nat) (xs : List Int) (base : Nat) (w : World)
    (hown : w.ownsRow base 5 1 v len (cellsOf xs)) (hb : base ≤ w.heap.size) (hl : len ≤ 1000000) : Calls Try.prog 24 #[v, rv r] w fun e w' => Puts base w xs len r e w' := by
  have hk : r.kind = 1 ∨ r.kind = 2 ∨ r.kind = 3 ∨ r.kind = 4 ∨ r.kind = 5 ∨ r.kind = 6 ∨ r.kind = 7 := by have h1 := hm.1; have h2 := hm.2.1; omega
  rcases hk with h | h | h | h | h | h | h
  · exact rput_1 r h hm hi v len xs base w hown hb hl
  · exact rput_2 r h hm hi v len xs base w hown hb hl
  · exact rput_3 r h hm hi v len xs base w hown hb hl
  · exact rput_4 r h hm hi v len xs base w hown hb hl
  · exact rput_5 r h hm hi v len xs base w hown hb hl
  · exact rput_6 r h hm hi v len xs base w hown hb hl
  · exact rput_7 r h hm hi v len xs base w hown hb hl
theorem rbytes_any (r : Rcd) (hm : May r) (hi : Is r) (v : Value) (len : Nat) (xs : List Int) (base : Nat) (w : World)
    (hown : w.ownsRow base 5 1 v len (cellsOf xs)) (hb : base ≤ w.heap.size) (hl : len ≤ 1000000) : Calls Try.prog 19 #[v, rv r] w fun e w' => Puts base w xs len r e w' := by
  have hk : r.kind = 1 ∨ r.kind = 2 ∨ r.kind = 3 ∨ r.kind = 4 ∨ r.kind = 5 ∨ r.kind = 6 ∨ r.kind = 7 := by have h1 := hm.1; have h2 := hm.2.1; omega
  rcases hk with h | h | h | h | h | h | h
  · exact rbytes_1 r h hm hi v len xs base w hown hb hl
  · exact rbytes_2 r h hm hi v len xs base w hown hb hl
  · exact rbytes_3 r h hm hi v len xs base w hown hb hl
  · exact rbytes_4 r h hm hi v len xs base w hown hb hl
  · exact rbytes_5 r h hm hi v len xs base w hown hb hl
  · exact rbytes_6 r h hm hi v len xs base w hown hb hl
  · exact rbytes_7 r h hm hi v len xs base w hown hb hl
theorem text_length (s : ByteArray) : (text s).length = 2 + s.size := by simp [text, put_length, strBytes_length]
theorem more_le {r : Rcd} (hm : May r) : (more r).length ≤ 1084 := by
  have hf := hm.2.2.2.2.2.2
  unfold fits keyMay at hf
  unfold more
  split
  · simp [put_length]
  · rename_i h1
    rw [if_neg h1] at hf
    split
    · rename_i h3
      rw [if_pos h3] at hf
      simp [put_length, text_length]; omega
    · rename_i h3
      rw [if_neg h3] at hf
      split
      · rename_i h4
        rw [if_pos h4] at hf
        simp [put_length, text_length]; omega
      · split
        · simp [put_length]
        · split
          · simp [put_length]
          · simp
theorem bytesOf_len {r : Rcd} (hm : May r) : 6 ≤ (bytesOf r).length ∧ (bytesOf r).length ≤ 1090 := by
  have h := more_le hm
  simp only [bytesOf, List.length_append, put_length]
  omega
theorem text_bytes (s : ByteArray) : Bytes (text s) := bytes_append (put_bytes _ _) (strBytes_bytes s)
theorem bytesOf_bytes (r : Rcd) : Bytes (bytesOf r) := by
  refine bytes_append (put_bytes _ _) (bytes_append (put_bytes _ _) (bytes_append (put_bytes _ _) ?_))
  unfold more
  split
  · exact bytes_append (put_bytes _ _) (bytes_append (put_bytes _ _) (bytes_append (put_bytes _ _) (bytes_append (put_bytes _ _) (put_bytes _ _))))
  · split
    · exact bytes_append (put_bytes _ _) (bytes_append (put_bytes _ _) (bytes_append (text_bytes _) (text_bytes _)))
    · split
      · exact bytes_append (put_bytes _ _) (text_bytes _)
      · split
        · exact bytes_append (put_bytes _ _) (bytes_append (put_bytes _ _) (put_bytes _ _))
        · split
          · exact put_bytes _ _
          · exact bytes_nil
theorem body_bytes (l : List Rcd) : Bytes (body l) := by
  intro z hz
  obtain ⟨r, _, hr⟩ := List.mem_flatMap.1 hz
  exact bytesOf_bytes r z hr
theorem body_snoc (l : List Rcd) (k : Nat) (h : k < l.length) : body (l.take (k + 1)) = body (l.take k) ++ bytesOf l[k] := by
  unfold body
  rw [List.take_succ_eq_append_getElem h, List.flatMap_append]
  simp
theorem body_take_le (l : List Rcd) (k : Nat) : (body (l.take k)).length ≤ (body l).length := by
  conv => rhs; rw [← List.take_append_drop k l]
  unfold body
  rw [List.flatMap_append, List.length_append]
  omega
/- A slice's records. -/
def Recs (w : World) (a : Option Addr) (l : List Rcd) : Prop :=
  (∀ r ∈ l, Is r) ∧ (0 < l.length → ∃ b off, a = some ⟨b, off, none⟩ ∧ b < w.heap.size ∧ ∀ i (h : i < l.length) j u, (cells l[i])[j]? = some u → w.cell? ⟨b, off + i * 14 + j, none⟩ = some u)
theorem Recs.but {S : Nat → Prop} {w w' : World} {a : Option Addr} {l : List Rcd} (h : Recs w a l) (hb : But S w w') (hs : ∀ p, a = some p → ¬ S p.block) : Recs w' a l := by
  refine ⟨h.1, fun hn => ?_⟩
  obtain ⟨b, off, rfl, hlt, hc⟩ := h.2 hn
  exact ⟨b, off, rfl, Nat.lt_of_lt_of_le hlt hb.size, fun i hi j u hu => (hb.cell (p := ⟨b, off + i * 14 + j, none⟩) hlt (hs ⟨b, off, none⟩ rfl)).trans (hc i hi j u hu)⟩
theorem Recs.below {w w' : World} {a : Option Addr} {l : List Rcd} (h : Recs w a l) (hb : Below w.heap.size w w') : Recs w' a l := h.but (S := fun _ => False) (But.of_new hb) (fun _ _ e => e)
theorem Recs.nil (w : World) (a : Option Addr) : Recs w a [] := ⟨fun _ h => absurd h List.not_mem_nil, fun h => absurd h (by simp)⟩
end Go.Proofs.Ytkiagflpjloliaa.Rec
