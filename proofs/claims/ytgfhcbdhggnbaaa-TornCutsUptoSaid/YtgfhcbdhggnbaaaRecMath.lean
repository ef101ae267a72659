/- Records: what one is, its bytes, whether it may be, and what bytes are read as. -/
import Derived.Test.YtgfhcbdhggnbaaaPackKit
namespace Go.Proofs.Ytgfhcbdhggnbaaa.Rec
open Go.Proofs.Ytgfhcbdhggnbaaa.Mem Go.Proofs.Ytgfhcbdhggnbaaa.Pack
set_option linter.unusedVariables false

structure Rcd where
  kind : Int
  bucket : Int
  gen : Nat
  keys : Int
  bytes : Int
  budget : Int
  seq : Nat
  serial : Nat
  rights : Int
  secret : Nat
  key : ByteArray
  val : ByteArray
  version : Nat
  expiry : Nat
deriving DecidableEq

def cells (r : Rcd) : Array Value := #[.int .i64 r.kind, .int .i64 r.bucket, .int .u32 (r.gen : Int), .int .i64 r.keys, .int .i64 r.bytes, .int .i64 r.budget, .int .u64 (r.seq : Int), .int .u32 (r.serial : Int), .int .i64 r.rights, .int .u64 (r.secret : Int), .string r.key, .string r.val, .int .u64 (r.version : Int), .int .u64 (r.expiry : Int)]
def rv (r : Rcd) : Value := .agg (cells r)
def nothing : ByteArray := ⟨#[]⟩
def zero : Rcd := ⟨0, 0, 0, 0, 0, 0, 0, 0, 0, 0, nothing, nothing, 0, 0⟩
def base (r : Rcd) : Rcd := ⟨r.kind, r.bucket, r.gen, 0, 0, 0, 0, 0, 0, 0, nothing, nothing, 0, 0⟩
def named (r : Rcd) : Rcd :=
  if r.kind = 1 then ⟨r.kind, r.bucket, r.gen, r.keys, r.bytes, r.budget, r.seq, r.serial, 0, 0, nothing, nothing, 0, 0⟩
  else if r.kind = 3 then ⟨r.kind, r.bucket, r.gen, 0, 0, 0, 0, 0, 0, 0, r.key, r.val, r.version, r.expiry⟩
  else if r.kind = 4 then ⟨r.kind, r.bucket, r.gen, 0, 0, 0, 0, 0, 0, 0, r.key, nothing, r.version, 0⟩
  else if r.kind = 5 then ⟨r.kind, r.bucket, r.gen, 0, 0, 0, 0, r.serial, r.rights, r.secret, nothing, nothing, 0, 0⟩
  else if r.kind = 6 then ⟨r.kind, r.bucket, r.gen, 0, 0, 0, 0, r.serial, 0, 0, nothing, nothing, 0, 0⟩
  else if r.kind = 2 ∨ r.kind = 7 then base r
  else zero
def inQ (n : Int) : Prop := 0 ≤ n ∧ n ≤ 1099511627776
def keyMay (s : ByteArray) : Prop := 1 ≤ s.size ∧ s.size ≤ 64
instance (n : Int) : Decidable (inQ n) := by unfold inQ; infer_instance
instance (s : ByteArray) : Decidable (keyMay s) := by unfold keyMay; infer_instance
def fits (r : Rcd) : Prop :=
  if r.kind = 1 then inQ r.keys ∧ inQ r.bytes ∧ inQ r.budget
  else if r.kind = 3 then keyMay r.key ∧ r.val.size ≤ 1000
  else if r.kind = 4 then keyMay r.key
  else if r.kind = 5 then 1 ≤ r.rights ∧ r.rights ≤ 7
  else True
instance (r : Rcd) : Decidable (fits r) := by unfold fits; infer_instance
/- Whether it may be. -/
def May (r : Rcd) : Prop := 1 ≤ r.kind ∧ r.kind ≤ 7 ∧ 0 ≤ r.bucket ∧ r.bucket < 64 ∧ 1 ≤ r.gen ∧ r = named r ∧ fits r
instance (r : Rcd) : Decidable (May r) := by unfold May; infer_instance
/- What any record that there is holds. -/
structure Is (r : Rcd) : Prop where
  kind : -9223372036854775808 ≤ r.kind ∧ r.kind ≤ 9223372036854775807
  bucket : -9223372036854775808 ≤ r.bucket ∧ r.bucket ≤ 9223372036854775807
  gen : r.gen < 4294967296
  seq : r.seq < 18446744073709551616
  serial : r.serial < 4294967296
  rights : -9223372036854775808 ≤ r.rights ∧ r.rights ≤ 9223372036854775807
  secret : r.secret < 18446744073709551616
  key : r.key.size ≤ 9223372036854775807
  val : r.val.size ≤ 9223372036854775807
  version : r.version < 18446744073709551616
  expiry : r.expiry < 18446744073709551616
def text (s : ByteArray) : List Int := put s.size 2 ++ strBytes s
def more (r : Rcd) : List Int :=
  if r.kind = 1 then put r.keys.toNat 8 ++ (put r.bytes.toNat 8 ++ (put r.budget.toNat 8 ++ (put r.seq 8 ++ put r.serial 4)))
  else if r.kind = 3 then put r.version 8 ++ (put r.expiry 8 ++ (text r.key ++ text r.val))
  else if r.kind = 4 then put r.version 8 ++ text r.key
  else if r.kind = 5 then put r.serial 4 ++ (put r.rights.toNat 1 ++ put r.secret 8)
  else if r.kind = 6 then put r.serial 4
  else []
def bytesOf (r : Rcd) : List Int := put r.kind.toNat 1 ++ (put r.bucket.toNat 1 ++ (put r.gen 4 ++ more r))
def body (l : List Rcd) : List Int := l.flatMap bytesOf
end Go.Proofs.Ytgfhcbdhggnbaaa.Rec
