/- In one text: Requests as numbers and texts, their bytes, and what bytes are read as: plain lists, no word of the code. What was put is read as it was, and what is read well is put as those bytes. -/
import Derived.Test.YtbdbbnpkekcefaaGPackB
import Derived.RowKit
namespace Go.Proofs.Ytbdbbnpkekcefaa.Cmd
open Go.Proofs.Ytbdbbnpkekcefaa.Mem Go.Proofs.Ytbdbbnpkekcefaa.Pack
set_option linter.unusedVariables false
set_option linter.unusedSimpArgs false

def sgn (n : Nat) : Int := RowKit.wrap64 (n : Int)
def u64 (z : Int) : Nat := (z % 18446744073709551616).toNat
theorem u64_lt (z : Int) : u64 z < 18446744073709551616 := by unfold u64; omega
theorem u64_nat {n : Nat} (h : n < 18446744073709551616) : u64 (n : Int) = n := by unfold u64; omega
theorem u64_cast (z : Int) : ((u64 z : Nat) : Int) = z % 18446744073709551616 := by unfold u64; omega
theorem u64_byte (z : Int) : put (u64 z) 1 = [z % 256] := by
  show [((u64 z % 256 : Nat) : Int)] = _
  congr 1
  unfold u64
  omega
theorem put_byte (n : Nat) : put n 1 = [((n % 256 : Nat) : Int)] := rfl
/- What is read in a row: numbers of so many bytes, and a text. -/
structure Pos where
  zs : List Int
  short : Bool
def Pos.num (p : Pos) (k : Nat) : Nat := Pack.num (got p.zs k)
def Pos.skip (p : Pos) (k : Nat) : Pos := ⟨left p.zs k, shortBy p.zs k p.short⟩
def Pos.txt (p : Pos) : ByteArray := strOfNums (textGot p.zs)
def Pos.past (p : Pos) : Pos := ⟨textLeft p.zs, textShort p.zs p.short⟩
theorem skip_le (p : Pos) (k : Nat) : (p.skip k).zs.length ≤ p.zs.length := left_length_le _ _
theorem past_le (p : Pos) : p.past.zs.length ≤ p.zs.length := Nat.le_trans (left_length_le _ _) (left_length_le _ _)
theorem skip_bytes {p : Pos} (h : Bytes p.zs) (k : Nat) : Bytes (p.skip k).zs := left_bytes h k
theorem past_bytes {p : Pos} (h : Bytes p.zs) : Bytes p.past.zs := left_bytes (left_bytes h 2) _
theorem txt_le (p : Pos) (h : Bytes p.zs) : p.txt.size ≤ 65535 ∧ p.txt.size ≤ p.zs.length := by
  have h1 : p.txt.size = (textGot p.zs).length := by
    rw [← strBytes_length]
    show (strBytes (strOfNums (textGot p.zs))).length = _
    rw [strBytes_strOf (show Bytes (textGot p.zs) from got_bytes (left_bytes h 2) _)]
  have h2 : textLen p.zs < 65536 := num_got2_lt h
  have h3 : (textGot p.zs).length ≤ textLen p.zs := got_length_le _ _
  have h4 : (textGot p.zs).length ≤ (left p.zs 2).length := by
    unfold textGot got
    split <;> simp; omega
  have h5 := left_length_le p.zs 2
  omega
theorem pos_num_lt {P : Pos} (h : Bytes P.zs) (k m : Nat) (hk : 256 ^ k = m) : P.num k < m := by
  have h1 := num_lt (got_bytes h k)
  have h2 : 256 ^ (got P.zs k).length ≤ 256 ^ k := pow256_le (got_length_le P.zs k)
  rw [← hk]
  exact Nat.lt_of_lt_of_le h1 h2
theorem num1_lt {P : Pos} (h : Bytes P.zs) : P.num 1 < 256 := pos_num_lt h 1 _ (by decide)
theorem num4_lt {P : Pos} (h : Bytes P.zs) : P.num 4 < 4294967296 := pos_num_lt h 4 _ (by decide)
theorem num8_lt {P : Pos} (h : Bytes P.zs) : P.num 8 < 18446744073709551616 := pos_num_lt h 8 _ (by decide)
def text (s : ByteArray) : List Int := put s.size 2 ++ strBytes s
theorem text_length (s : ByteArray) : (text s).length = 2 + s.size := by simp [text, put_length, strBytes_length]
theorem text_bytes (s : ByteArray) : Bytes (text s) := bytes_append (put_bytes _ _) (strBytes_bytes s)
theorem skip_front (n k : Nat) (ys : List Int) (s : Bool) : (⟨put n k ++ ys, s⟩ : Pos).skip k = ⟨ys, s⟩ := by
  unfold Pos.skip
  simp only
  rw [left_front _ (put_length _ _), short_front _ (put_length _ _)]
theorem num_front (n k : Nat) (ys : List Int) (s : Bool) : (⟨put n k ++ ys, s⟩ : Pos).num k = n % 256 ^ k := by
  unfold Pos.num
  simp only
  rw [got_front _ (put_length _ _), num_put]
theorem text_app (t : ByteArray) (ys : List Int) : text t ++ ys = put t.size 2 ++ (strBytes t ++ ys) := by
  unfold text; rw [List.append_assoc]
theorem txt_front (t : ByteArray) (ht : t.size ≤ 65535) (ys : List Int) (s : Bool) : (⟨text t ++ ys, s⟩ : Pos).txt = t := by
  unfold Pos.txt
  simp only
  rw [text_app, textGot_front t ht, strOf_strBytes]
theorem past_front (t : ByteArray) (ht : t.size ≤ 65535) (ys : List Int) (s : Bool) : (⟨text t ++ ys, s⟩ : Pos).past = ⟨ys, s⟩ := by
  unfold Pos.past
  simp only
  rw [text_app, textLeft_front t ht, textShort_front t ht]
theorem put_num {zs : List Int} (h : Bytes zs) : put (num zs) zs.length = zs := by
  induction zs with
  | nil => rfl
  | cons z zs ih =>
    have hz := h z List.mem_cons_self
    have h2 := ih (fun x hx => h x (List.mem_cons_of_mem _ hx))
    rw [num, List.length_cons, put]
    have e1 : (z.toNat + 256 * num zs) % 256 = z.toNat := by omega
    have e2 : (z.toNat + 256 * num zs) / 256 = num zs := by omega
    rw [e1, e2, h2]
    congr 1
    omega
theorem skip_ok {P : Pos} {k : Nat} (hB : Bytes P.zs) (h : (P.skip k).short = false) : P.short = false ∧ P.zs = put (P.num k) k ++ (P.skip k).zs := by
  have h1 : shortBy P.zs k P.short = false := h
  unfold shortBy at h1
  split at h1
  · rename_i hk
    refine ⟨h1, ?_⟩
    have e1 : got P.zs k = P.zs.take k := if_pos hk
    have e2 : (P.skip k).zs = P.zs.drop k := if_pos hk
    have e3 : P.num k = num (P.zs.take k) := by unfold Pos.num; rw [e1]
    have e4 : (P.zs.take k).length = k := by rw [List.length_take]; omega
    have e5 := put_num (bytes_take hB k)
    rw [e4] at e5
    rw [e2, e3, e5, List.take_append_drop]
  · cases h1
theorem past_ok {P : Pos} (hB : Bytes P.zs) (h : P.past.short = false) : P.short = false ∧ P.zs = text P.txt ++ P.past.zs := by
  have h1 : shortBy (left P.zs 2) (textLen P.zs) (shortBy P.zs 2 P.short) = false := h
  unfold shortBy at h1
  split at h1
  · rename_i hk
    split at h1
    · rename_i hk2
      refine ⟨h1, ?_⟩
      have e1 : got P.zs 2 = P.zs.take 2 := if_pos hk2
      have e2 : left P.zs 2 = P.zs.drop 2 := if_pos hk2
      have e3 : textLen P.zs = num (P.zs.take 2) := by unfold textLen; rw [e1]
      rw [e2] at hk
      have e4 : textGot P.zs = (P.zs.drop 2).take (textLen P.zs) := by unfold textGot; rw [e2]; exact if_pos hk
      have e5 : P.past.zs = (P.zs.drop 2).drop (textLen P.zs) := by
        show textLeft P.zs = _
        unfold textLeft; rw [e2]; exact if_pos hk
      have hb : Bytes (textGot P.zs) := by rw [e4]; exact bytes_take (bytes_drop hB 2) _
      have e6 : strBytes P.txt = textGot P.zs := strBytes_strOf hb
      have e7 : P.txt.size = textLen P.zs := by rw [← strBytes_length, e6, e4, List.length_take]; omega
      have e8 : (P.zs.take 2).length = 2 := by rw [List.length_take]; omega
      have e9 := put_num (bytes_take hB 2)
      rw [e8, ← e3] at e9
      unfold text
      rw [e6, e7, e9, e4, e5, List.append_assoc, List.take_append_drop, List.take_append_drop]
    · cases h1
  · cases h1
theorem sgn_small {n : Nat} (h : n ≤ 1099511627776) : sgn n = (n : Int) := by
  unfold sgn RowKit.wrap64; omega
theorem sgn_back {n : Nat} (h : n < 18446744073709551616) : u64 (sgn n) = n := by
  unfold u64 sgn RowKit.wrap64; omega
theorem sgn_there {z : Int} (h : -9223372036854775808 ≤ z ∧ z ≤ 9223372036854775807) : sgn (u64 z) = z := by
  unfold u64 sgn RowKit.wrap64; omega
theorem mod1 {n : Nat} (h : n < 256) : n % 256 ^ 1 = n := Nat.mod_eq_of_lt (by rw [Nat.pow_one]; exact h)
theorem pow4 : (256 : Nat) ^ 4 = 4294967296 := by decide
theorem pow8 : (256 : Nat) ^ 8 = 18446744073709551616 := by decide
theorem mod4 {n : Nat} (h : n < 4294967296) : n % 256 ^ 4 = n := Nat.mod_eq_of_lt (by rw [pow4]; exact h)
theorem mod8 {n : Nat} (h : n < 18446744073709551616) : n % 256 ^ 8 = n := Nat.mod_eq_of_lt (by rw [pow8]; exact h)

/- Ops, tokens, quotas, requests. -/
structure Op where
  del : Bool
  key : ByteArray
  val : ByteArray
  cond : Nat
  ttl : Nat
structure Tok where
  b : Int
  g : Nat
  s : Nat
  x : Nat
structure Quo where
  k : Int
  b : Int
  g : Int
structure Rq where
  tag : Int
  admin : Nat
  bucket : Int
  quo : Quo
  tok : Tok
  ops : List Op
  after : ByteArray
  first : Bool
  count : Int
  rights : Int
  serial : Nat
def nothing : ByteArray := ⟨#[]⟩
def zeroTok : Tok := ⟨0, 0, 0, 0⟩
def zeroQuo : Quo := ⟨0, 0, 0⟩
def flag (b : Bool) : List Int := put (if b then 1 else 0) 1
def putTok (t : Tok) : List Int := put (u64 t.b) 1 ++ (put t.g 4 ++ (put t.s 4 ++ put t.x 8))
def putQuo (q : Quo) : List Int := put (u64 q.k) 8 ++ (put (u64 q.b) 8 ++ put (u64 q.g) 8)
def putOp (tag : Int) (o : Op) : List Int := text o.key ++ (if tag = 7 then [] else put o.cond 8 ++ (if o.del then [] else text o.val ++ put o.ttl 8))
def putOne (tag : Int) (o : Op) : List Int := (if tag = 9 then flag o.del else []) ++ putOp tag o
def putOps (tag : Int) (l : List Op) : List Int := (if tag = 9 then put l.length 1 else []) ++ l.flatMap (putOne tag)
def more (q : Rq) : List Int :=
  if q.tag = 1 ∨ q.tag = 3 then put q.admin 8 ++ (put (u64 q.bucket) 1 ++ putQuo q.quo)
  else if q.tag = 2 then put q.admin 8 ++ put (u64 q.bucket) 1
  else if q.tag = 4 ∨ q.tag = 5 then put q.admin 8
  else if 6 ≤ q.tag ∧ q.tag ≤ 9 then putTok q.tok ++ putOps q.tag q.ops
  else if q.tag = 10 then putTok q.tok ++ (text q.after ++ (flag q.first ++ put (u64 q.count) 1))
  else if q.tag = 11 then putTok q.tok
  else if q.tag = 12 then putTok q.tok ++ put (u64 q.rights) 1
  else if q.tag = 13 then putTok q.tok ++ put q.serial 4
  else []
def bytesOf (q : Rq) : List Int := put (u64 q.tag) 1 ++ more q
/- Reading. -/
def rdTok (P : Pos) : Tok := ⟨P.num 1, (P.skip 1).num 4, ((P.skip 1).skip 4).num 4, (((P.skip 1).skip 4).skip 4).num 8⟩
def endTok (P : Pos) : Pos := (((P.skip 1).skip 4).skip 4).skip 8
def rdQuo (P : Pos) : Quo := ⟨sgn (P.num 8), sgn ((P.skip 8).num 8), sgn (((P.skip 8).skip 8).num 8)⟩
def endQuo (P : Pos) : Pos := ((P.skip 8).skip 8).skip 8
def rdOp (tag : Int) (del : Bool) (P : Pos) : Op :=
  if tag = 7 then ⟨del, P.txt, nothing, 0, 0⟩
  else if del then ⟨true, P.txt, nothing, P.past.num 8, 0⟩
  else ⟨false, P.txt, (P.past.skip 8).txt, P.past.num 8, ((P.past.skip 8).past).num 8⟩
def endOp (tag : Int) (del : Bool) (P : Pos) : Pos :=
  if tag = 7 then P.past else if del then P.past.skip 8 else ((P.past.skip 8).past).skip 8
/- An op of a batch, its flag ahead of it. -/
def isDel (P : Pos) : Bool := P.num 1 == 1
def rd9 (P : Pos) : Op := rdOp 9 (isDel P) (P.skip 1)
def end9 (P : Pos) : Pos := endOp 9 (isDel P) (P.skip 1)
def at9 : Nat → Pos → Pos
  | 0, P => P
  | k + 1, P => at9 k (end9 P)
def ops9 : Nat → Pos → List Op
  | 0, P => []
  | k + 1, P => rd9 P :: ops9 k (end9 P)
theorem at9_snoc (k : Nat) (P : Pos) : at9 (k + 1) P = end9 (at9 k P) := by
  induction k generalizing P with
  | zero => rfl
  | succ k ih => rw [at9, ih, at9]
theorem ops9_snoc (k : Nat) (P : Pos) : ops9 (k + 1) P = ops9 k P ++ [rd9 (at9 k P)] := by
  induction k generalizing P with
  | zero => rfl
  | succ k ih => rw [ops9, ih, ops9, at9]; rfl
theorem ops9_length (k : Nat) (P : Pos) : (ops9 k P).length = k := by
  induction k generalizing P with
  | zero => rfl
  | succ k ih => rw [ops9, List.length_cons, ih]
theorem endOp_bytes (tag : Int) (del : Bool) {P : Pos} (h : Bytes P.zs) : Bytes (endOp tag del P).zs := by
  unfold endOp
  split
  · exact past_bytes h
  · split
    · exact skip_bytes (past_bytes h) 8
    · exact skip_bytes (past_bytes (skip_bytes (past_bytes h) 8)) 8
theorem end9_bytes {P : Pos} (h : Bytes P.zs) : Bytes (end9 P).zs := endOp_bytes _ _ (skip_bytes h 1)
theorem at9_bytes (k : Nat) {P : Pos} (h : Bytes P.zs) : Bytes (at9 k P).zs := by
  induction k generalizing P with
  | zero => exact h
  | succ k ih => exact ih (end9_bytes h)
theorem endTok_bytes {P : Pos} (h : Bytes P.zs) : Bytes (endTok P).zs := skip_bytes (skip_bytes (skip_bytes (skip_bytes h 1) 4) 4) 8
theorem endQuo_bytes {P : Pos} (h : Bytes P.zs) : Bytes (endQuo P).zs := skip_bytes (skip_bytes (skip_bytes h 8) 8) 8
def rdBody (t : Int) (Q : Pos) : Rq :=
  if t = 1 ∨ t = 3 then ⟨t, Q.num 8, ((Q.skip 8).num 1 : Nat), rdQuo ((Q.skip 8).skip 1), zeroTok, [], nothing, false, 0, 0, 0⟩
  else if t = 2 then ⟨t, Q.num 8, ((Q.skip 8).num 1 : Nat), zeroQuo, zeroTok, [], nothing, false, 0, 0, 0⟩
  else if t = 4 ∨ t = 5 then ⟨t, Q.num 8, 0, zeroQuo, zeroTok, [], nothing, false, 0, 0, 0⟩
  else if t = 9 then ⟨t, 0, 0, zeroQuo, rdTok Q, ops9 ((endTok Q).num 1) ((endTok Q).skip 1), nothing, false, 0, 0, 0⟩
  else if 6 ≤ t ∧ t ≤ 8 then ⟨t, 0, 0, zeroQuo, rdTok Q, [rdOp t (decide (t = 8)) (endTok Q)], nothing, false, 0, 0, 0⟩
  else if t = 10 then ⟨t, 0, 0, zeroQuo, rdTok Q, [], (endTok Q).txt, isDel (endTok Q).past, (((endTok Q).past.skip 1).num 1 : Nat), 0, 0⟩
  else if t = 11 then ⟨t, 0, 0, zeroQuo, rdTok Q, [], nothing, false, 0, 0, 0⟩
  else if t = 12 then ⟨t, 0, 0, zeroQuo, rdTok Q, [], nothing, false, 0, ((endTok Q).num 1 : Nat), 0⟩
  else if t = 13 then ⟨t, 0, 0, zeroQuo, rdTok Q, [], nothing, false, 0, 0, (endTok Q).num 4⟩
  else ⟨t, 0, 0, zeroQuo, zeroTok, [], nothing, false, 0, 0, 0⟩
def readRq (P : Pos) : Rq := rdBody ((P.num 1 : Nat) : Int) (P.skip 1)
def endBody (t : Int) (Q : Pos) : Pos :=
  if t = 1 ∨ t = 3 then endQuo ((Q.skip 8).skip 1)
  else if t = 2 then (Q.skip 8).skip 1
  else if t = 4 ∨ t = 5 then Q.skip 8
  else if t = 9 then at9 ((endTok Q).num 1) ((endTok Q).skip 1)
  else if 6 ≤ t ∧ t ≤ 8 then endOp t (decide (t = 8)) (endTok Q)
  else if t = 10 then ((endTok Q).past.skip 1).skip 1
  else if t = 11 then endTok Q
  else if t = 12 then (endTok Q).skip 1
  else if t = 13 then (endTok Q).skip 4
  else Q
def endRq (P : Pos) : Pos := endBody ((P.num 1 : Nat) : Int) (P.skip 1)
/- Limits. -/
def inQ (z : Int) : Prop := 0 ≤ z ∧ z ≤ 1099511627776
instance (z : Int) : Decidable (inQ z) := inferInstanceAs (Decidable (_ ∧ _))
def mayQuo (q : Quo) : Bool := decide (inQ q.k ∧ inQ q.b ∧ inQ q.g)
def opLim (o : Op) : Bool := decide (1 ≤ o.key.size) && (decide (o.key.size ≤ 64) && decide (o.val.size ≤ 1000))
def leastOf (tag : Int) : Nat := if 6 ≤ tag ∧ tag ≤ 9 then 1 else 0
def mostOf (tag : Int) : Nat := if tag = 9 then 16 else if 6 ≤ tag ∧ tag ≤ 8 then 1 else 0
def opsLim (tag : Int) (l : List Op) : Bool := decide (leastOf tag ≤ l.length) && (decide (l.length ≤ mostOf tag) && l.all opLim)
def lim (q : Rq) : Bool :=
  decide (1 ≤ q.tag ∧ q.tag ≤ 13) && (decide (0 ≤ q.bucket) && (decide (q.bucket < 64) && (mayQuo q.quo && (opsLim q.tag q.ops && (decide (q.after.size ≤ 64) && (decide (0 ≤ q.count) && (decide (q.count ≤ 50) && decide (q.tag ≠ 12 ∨ 1 ≤ q.rights ∧ q.rights ≤ 7))))))))
/- What the document's Parse finds bad. -/
def badFlag (P : Pos) : Bool := decide (1 < P.num 1)
def badText (least most : Nat) (P : Pos) : Bool := decide (P.txt.size < least) || decide (most < P.txt.size)
def badOp (tag : Int) (del : Bool) (P : Pos) : Bool :=
  badText 1 64 P || (decide (tag ≠ 7) && (!del && badText 0 1000 (P.past.skip 8)))
def bad9 (P : Pos) : Bool := badFlag P || badOp 9 (isDel P) (P.skip 1)
def bads9 : Nat → Pos → Bool
  | 0, P => false
  | k + 1, P => bad9 P || bads9 k (end9 P)
theorem bads9_snoc (k : Nat) (P : Pos) : bads9 (k + 1) P = (bads9 k P || bad9 (at9 k P)) := by
  induction k generalizing P with
  | zero => simp [bads9, at9]
  | succ k ih => rw [bads9, ih, bads9, at9, Bool.or_assoc]
def badBody (t : Int) (Q : Pos) : Bool :=
  if t = 1 ∨ t = 3 then decide (63 < (Q.skip 8).num 1) || !mayQuo (rdQuo ((Q.skip 8).skip 1))
  else if t = 2 then decide (63 < (Q.skip 8).num 1)
  else if t = 4 ∨ t = 5 then false
  else if t = 9 then decide ((endTok Q).num 1 < 1) || (decide (16 < (endTok Q).num 1) || bads9 ((endTok Q).num 1) ((endTok Q).skip 1))
  else if 6 ≤ t ∧ t ≤ 8 then badOp t (decide (t = 8)) (endTok Q)
  else if t = 10 then badText 0 64 (endTok Q) || (badFlag (endTok Q).past || decide (50 < ((endTok Q).past.skip 1).num 1))
  else if t = 11 then false
  else if t = 12 then decide ((endTok Q).num 1 < 1) || decide (7 < (endTok Q).num 1)
  else if t = 13 then false
  else true
def bad (P : Pos) : Bool := badBody ((P.num 1 : Nat) : Int) (P.skip 1)
/- Whether bytes are a request's, as the document says. -/
def good (zs : List Int) : Bool := !bad ⟨zs, false⟩ && (!(endRq ⟨zs, false⟩).short && decide ((endRq ⟨zs, false⟩).zs = []))
/- Whether they are, as the program says. -/
def isRq (zs : List Int) : Bool := lim (readRq ⟨zs, false⟩) && decide (bytesOf (readRq ⟨zs, false⟩) = zs)
theorem rdBody_c1 {t : Int} (h : t = 1 ∨ t = 3) (Q : Pos) : rdBody t Q = ⟨t, Q.num 8, ((Q.skip 8).num 1 : Nat), rdQuo ((Q.skip 8).skip 1), zeroTok, [], nothing, false, 0, 0, 0⟩ := by unfold rdBody; rw [if_pos h]
theorem rdBody_c2 {t : Int} (h : t = 2) (Q : Pos) : rdBody t Q = ⟨t, Q.num 8, ((Q.skip 8).num 1 : Nat), zeroQuo, zeroTok, [], nothing, false, 0, 0, 0⟩ := by unfold rdBody; rw [if_neg (by omega), if_pos h]
theorem rdBody_c4 {t : Int} (h : t = 4 ∨ t = 5) (Q : Pos) : rdBody t Q = ⟨t, Q.num 8, 0, zeroQuo, zeroTok, [], nothing, false, 0, 0, 0⟩ := by unfold rdBody; rw [if_neg (by omega), if_neg (by omega), if_pos h]
theorem rdBody_c9 {t : Int} (h : t = 9) (Q : Pos) : rdBody t Q = ⟨t, 0, 0, zeroQuo, rdTok Q, ops9 ((endTok Q).num 1) ((endTok Q).skip 1), nothing, false, 0, 0, 0⟩ := by unfold rdBody; rw [if_neg (by omega), if_neg (by omega), if_neg (by omega), if_pos h]
theorem rdBody_c6 {t : Int} (h : 6 ≤ t ∧ t ≤ 8) (Q : Pos) : rdBody t Q = ⟨t, 0, 0, zeroQuo, rdTok Q, [rdOp t (decide (t = 8)) (endTok Q)], nothing, false, 0, 0, 0⟩ := by unfold rdBody; rw [if_neg (by omega), if_neg (by omega), if_neg (by omega), if_neg (by omega), if_pos h]
theorem rdBody_c10 {t : Int} (h : t = 10) (Q : Pos) : rdBody t Q = ⟨t, 0, 0, zeroQuo, rdTok Q, [], (endTok Q).txt, isDel (endTok Q).past, (((endTok Q).past.skip 1).num 1 : Nat), 0, 0⟩ := by unfold rdBody; rw [if_neg (by omega), if_neg (by omega), if_neg (by omega), if_neg (by omega), if_neg (by omega), if_pos h]
theorem rdBody_c11 {t : Int} (h : t = 11) (Q : Pos) : rdBody t Q = ⟨t, 0, 0, zeroQuo, rdTok Q, [], nothing, false, 0, 0, 0⟩ := by unfold rdBody; rw [if_neg (by omega), if_neg (by omega), if_neg (by omega), if_neg (by omega), if_neg (by omega), if_neg (by omega), if_pos h]
theorem rdBody_c12 {t : Int} (h : t = 12) (Q : Pos) : rdBody t Q = ⟨t, 0, 0, zeroQuo, rdTok Q, [], nothing, false, 0, ((endTok Q).num 1 : Nat), 0⟩ := by unfold rdBody; rw [if_neg (by omega), if_neg (by omega), if_neg (by omega), if_neg (by omega), if_neg (by omega), if_neg (by omega), if_neg (by omega), if_pos h]
theorem rdBody_c13 {t : Int} (h : t = 13) (Q : Pos) : rdBody t Q = ⟨t, 0, 0, zeroQuo, rdTok Q, [], nothing, false, 0, 0, (endTok Q).num 4⟩ := by unfold rdBody; rw [if_neg (by omega), if_neg (by omega), if_neg (by omega), if_neg (by omega), if_neg (by omega), if_neg (by omega), if_neg (by omega), if_neg (by omega), if_pos h]
theorem rdBody_c0 {t : Int} (h : t < 1 ∨ 13 < t) (Q : Pos) : rdBody t Q = ⟨t, 0, 0, zeroQuo, zeroTok, [], nothing, false, 0, 0, 0⟩ := by unfold rdBody; rw [if_neg (by omega), if_neg (by omega), if_neg (by omega), if_neg (by omega), if_neg (by omega), if_neg (by omega), if_neg (by omega), if_neg (by omega), if_neg (by omega)]
theorem endBody_c1 {t : Int} (h : t = 1 ∨ t = 3) (Q : Pos) : endBody t Q = endQuo ((Q.skip 8).skip 1) := by unfold endBody; rw [if_pos h]
theorem endBody_c2 {t : Int} (h : t = 2) (Q : Pos) : endBody t Q = (Q.skip 8).skip 1 := by unfold endBody; rw [if_neg (by omega), if_pos h]
theorem endBody_c4 {t : Int} (h : t = 4 ∨ t = 5) (Q : Pos) : endBody t Q = Q.skip 8 := by unfold endBody; rw [if_neg (by omega), if_neg (by omega), if_pos h]
theorem endBody_c9 {t : Int} (h : t = 9) (Q : Pos) : endBody t Q = at9 ((endTok Q).num 1) ((endTok Q).skip 1) := by unfold endBody; rw [if_neg (by omega), if_neg (by omega), if_neg (by omega), if_pos h]
theorem endBody_c6 {t : Int} (h : 6 ≤ t ∧ t ≤ 8) (Q : Pos) : endBody t Q = endOp t (decide (t = 8)) (endTok Q) := by unfold endBody; rw [if_neg (by omega), if_neg (by omega), if_neg (by omega), if_neg (by omega), if_pos h]
theorem endBody_c10 {t : Int} (h : t = 10) (Q : Pos) : endBody t Q = ((endTok Q).past.skip 1).skip 1 := by unfold endBody; rw [if_neg (by omega), if_neg (by omega), if_neg (by omega), if_neg (by omega), if_neg (by omega), if_pos h]
theorem endBody_c11 {t : Int} (h : t = 11) (Q : Pos) : endBody t Q = endTok Q := by unfold endBody; rw [if_neg (by omega), if_neg (by omega), if_neg (by omega), if_neg (by omega), if_neg (by omega), if_neg (by omega), if_pos h]
theorem endBody_c12 {t : Int} (h : t = 12) (Q : Pos) : endBody t Q = (endTok Q).skip 1 := by unfold endBody; rw [if_neg (by omega), if_neg (by omega), if_neg (by omega), if_neg (by omega), if_neg (by omega), if_neg (by omega), if_neg (by omega), if_pos h]
theorem endBody_c13 {t : Int} (h : t = 13) (Q : Pos) : endBody t Q = (endTok Q).skip 4 := by unfold endBody; rw [if_neg (by omega), if_neg (by omega), if_neg (by omega), if_neg (by omega), if_neg (by omega), if_neg (by omega), if_neg (by omega), if_neg (by omega), if_pos h]
theorem endBody_c0 {t : Int} (h : t < 1 ∨ 13 < t) (Q : Pos) : endBody t Q = Q := by unfold endBody; rw [if_neg (by omega), if_neg (by omega), if_neg (by omega), if_neg (by omega), if_neg (by omega), if_neg (by omega), if_neg (by omega), if_neg (by omega), if_neg (by omega)]
theorem badBody_c1 {t : Int} (h : t = 1 ∨ t = 3) (Q : Pos) : badBody t Q = (decide (63 < (Q.skip 8).num 1) || !mayQuo (rdQuo ((Q.skip 8).skip 1))) := by unfold badBody; rw [if_pos h]
theorem badBody_c2 {t : Int} (h : t = 2) (Q : Pos) : badBody t Q = (decide (63 < (Q.skip 8).num 1)) := by unfold badBody; rw [if_neg (by omega), if_pos h]
theorem badBody_c4 {t : Int} (h : t = 4 ∨ t = 5) (Q : Pos) : badBody t Q = (false) := by unfold badBody; rw [if_neg (by omega), if_neg (by omega), if_pos h]
theorem badBody_c9 {t : Int} (h : t = 9) (Q : Pos) : badBody t Q = (decide ((endTok Q).num 1 < 1) || (decide (16 < (endTok Q).num 1) || bads9 ((endTok Q).num 1) ((endTok Q).skip 1))) := by unfold badBody; rw [if_neg (by omega), if_neg (by omega), if_neg (by omega), if_pos h]
theorem badBody_c6 {t : Int} (h : 6 ≤ t ∧ t ≤ 8) (Q : Pos) : badBody t Q = (badOp t (decide (t = 8)) (endTok Q)) := by unfold badBody; rw [if_neg (by omega), if_neg (by omega), if_neg (by omega), if_neg (by omega), if_pos h]
theorem badBody_c10 {t : Int} (h : t = 10) (Q : Pos) : badBody t Q = (badText 0 64 (endTok Q) || (badFlag (endTok Q).past || decide (50 < ((endTok Q).past.skip 1).num 1))) := by unfold badBody; rw [if_neg (by omega), if_neg (by omega), if_neg (by omega), if_neg (by omega), if_neg (by omega), if_pos h]
theorem badBody_c11 {t : Int} (h : t = 11) (Q : Pos) : badBody t Q = (false) := by unfold badBody; rw [if_neg (by omega), if_neg (by omega), if_neg (by omega), if_neg (by omega), if_neg (by omega), if_neg (by omega), if_pos h]
theorem badBody_c12 {t : Int} (h : t = 12) (Q : Pos) : badBody t Q = (decide ((endTok Q).num 1 < 1) || decide (7 < (endTok Q).num 1)) := by unfold badBody; rw [if_neg (by omega), if_neg (by omega), if_neg (by omega), if_neg (by omega), if_neg (by omega), if_neg (by omega), if_neg (by omega), if_pos h]
theorem badBody_c13 {t : Int} (h : t = 13) (Q : Pos) : badBody t Q = (false) := by unfold badBody; rw [if_neg (by omega), if_neg (by omega), if_neg (by omega), if_neg (by omega), if_neg (by omega), if_neg (by omega), if_neg (by omega), if_neg (by omega), if_pos h]
theorem badBody_c0 {t : Int} (h : t < 1 ∨ 13 < t) (Q : Pos) : badBody t Q = (true) := by unfold badBody; rw [if_neg (by omega), if_neg (by omega), if_neg (by omega), if_neg (by omega), if_neg (by omega), if_neg (by omega), if_neg (by omega), if_neg (by omega), if_neg (by omega)]
theorem more_c1 {q : Rq} (h : q.tag = 1 ∨ q.tag = 3) : more q = put q.admin 8 ++ (put (u64 q.bucket) 1 ++ putQuo q.quo) := by unfold more; rw [if_pos h]
theorem more_c2 {q : Rq} (h : q.tag = 2) : more q = put q.admin 8 ++ put (u64 q.bucket) 1 := by unfold more; rw [if_neg (by omega), if_pos h]
theorem more_c4 {q : Rq} (h : q.tag = 4 ∨ q.tag = 5) : more q = put q.admin 8 := by unfold more; rw [if_neg (by omega), if_neg (by omega), if_pos h]
theorem more_c6 {q : Rq} (h : 6 ≤ q.tag ∧ q.tag ≤ 9) : more q = putTok q.tok ++ putOps q.tag q.ops := by unfold more; rw [if_neg (by omega), if_neg (by omega), if_neg (by omega), if_pos h]
theorem more_c10 {q : Rq} (h : q.tag = 10) : more q = putTok q.tok ++ (text q.after ++ (flag q.first ++ put (u64 q.count) 1)) := by unfold more; rw [if_neg (by omega), if_neg (by omega), if_neg (by omega), if_neg (by omega), if_pos h]
theorem more_c11 {q : Rq} (h : q.tag = 11) : more q = putTok q.tok := by unfold more; rw [if_neg (by omega), if_neg (by omega), if_neg (by omega), if_neg (by omega), if_neg (by omega), if_pos h]
theorem more_c12 {q : Rq} (h : q.tag = 12) : more q = putTok q.tok ++ put (u64 q.rights) 1 := by unfold more; rw [if_neg (by omega), if_neg (by omega), if_neg (by omega), if_neg (by omega), if_neg (by omega), if_neg (by omega), if_pos h]
theorem more_c13 {q : Rq} (h : q.tag = 13) : more q = putTok q.tok ++ put q.serial 4 := by unfold more; rw [if_neg (by omega), if_neg (by omega), if_neg (by omega), if_neg (by omega), if_neg (by omega), if_neg (by omega), if_neg (by omega), if_pos h]
theorem classes {t : Int} : (t = 1 ∨ t = 3) ∨ t = 2 ∨ (t = 4 ∨ t = 5) ∨ t = 9 ∨ (6 ≤ t ∧ t ≤ 8) ∨ t = 10 ∨ t = 11 ∨ t = 12 ∨ t = 13 ∨ (t < 1 ∨ 13 < t) := by omega
theorem rdBody_tag (t : Int) (Q : Pos) : (rdBody t Q).tag = t := by
  unfold rdBody
  repeat' split
  all_goals rfl
end Go.Proofs.Ytbdbbnpkekcefaa.Cmd
namespace Go.Proofs.Ytbdbbnpkekcefaa.Cmd
open Go.Proofs.Ytbdbbnpkekcefaa.Mem Go.Proofs.Ytbdbbnpkekcefaa.Pack
set_option linter.unusedVariables false
set_option linter.unusedSimpArgs false

theorem tok_ok {P : Pos} (hB : Bytes P.zs) (h : (endTok P).short = false) : P.short = false ∧ P.zs = putTok (rdTok P) ++ (endTok P).zs := by
  have b1 := skip_bytes hB 1
  have b2 := skip_bytes b1 4
  have b3 := skip_bytes b2 4
  obtain ⟨h3, e3⟩ := skip_ok b3 h
  obtain ⟨h2, e2⟩ := skip_ok b2 h3
  obtain ⟨h1, e1⟩ := skip_ok b1 h2
  obtain ⟨h0, e0⟩ := skip_ok hB h1
  refine ⟨h0, ?_⟩
  unfold putTok rdTok endTok
  simp only [List.append_assoc]
  rw [u64_nat (by have := num1_lt hB; omega)]
  conv => lhs; rw [e0, e1, e2, e3]
structure TokIs (t : Tok) : Prop where
  b : 0 ≤ t.b ∧ t.b < 256
  g : t.g < 4294967296
  s : t.s < 4294967296
  x : t.x < 18446744073709551616
theorem rdTok_is {P : Pos} (hB : Bytes P.zs) : TokIs (rdTok P) := by
  have b1 := skip_bytes hB 1
  have b2 := skip_bytes b1 4
  have b3 := skip_bytes b2 4
  exact ⟨⟨Int.natCast_nonneg _, by have := num1_lt hB; show ((P.num 1 : Nat) : Int) < 256; omega⟩, num4_lt b1, num4_lt b2, num8_lt b3⟩
theorem tok_front {t : Tok} (h : TokIs t) (ys : List Int) (s : Bool) : rdTok ⟨putTok t ++ ys, s⟩ = t ∧ endTok ⟨putTok t ++ ys, s⟩ = ⟨ys, s⟩ := by
  obtain ⟨b, g, sr, x⟩ := t
  obtain ⟨⟨hb0, hb1⟩, hg, hs, hx⟩ := h
  simp only at hb0 hb1 hg hs hx
  unfold putTok rdTok endTok
  simp only [List.append_assoc, skip_front, num_front]
  have e1 : u64 b < 256 := by unfold u64; omega
  have e2 : ((u64 b : Nat) : Int) = b := by unfold u64; omega
  rw [mod1 e1, mod4 hg, mod4 hs, mod8 hx, e2]
  refine ⟨?_, ?_⟩ <;> first | rfl | trivial
theorem quo_ok {P : Pos} (hB : Bytes P.zs) (h : (endQuo P).short = false) : P.short = false ∧ P.zs = putQuo (rdQuo P) ++ (endQuo P).zs := by
  have b1 := skip_bytes hB 8
  have b2 := skip_bytes b1 8
  obtain ⟨h2, e2⟩ := skip_ok b2 h
  obtain ⟨h1, e1⟩ := skip_ok b1 h2
  obtain ⟨h0, e0⟩ := skip_ok hB h1
  refine ⟨h0, ?_⟩
  unfold putQuo rdQuo endQuo
  simp only [List.append_assoc]
  rw [sgn_back (num8_lt hB), sgn_back (num8_lt b1), sgn_back (num8_lt b2)]
  conv => lhs; rw [e0, e1, e2]
def I64 (z : Int) : Prop := -9223372036854775808 ≤ z ∧ z ≤ 9223372036854775807
structure QuoIs (q : Quo) : Prop where
  k : I64 q.k
  b : I64 q.b
  g : I64 q.g
theorem sgn_is (n : Nat) : I64 (sgn n) := by unfold I64 sgn RowKit.wrap64; omega
theorem rdQuo_is (P : Pos) : QuoIs (rdQuo P) := ⟨sgn_is _, sgn_is _, sgn_is _⟩
theorem quo_front {q : Quo} (h : QuoIs q) (ys : List Int) (s : Bool) : rdQuo ⟨putQuo q ++ ys, s⟩ = q ∧ endQuo ⟨putQuo q ++ ys, s⟩ = ⟨ys, s⟩ := by
  obtain ⟨k, b, g⟩ := q
  obtain ⟨hk, hb, hg⟩ := h
  unfold putQuo rdQuo endQuo
  simp only [List.append_assoc, skip_front, num_front]
  rw [mod8 (u64_lt _), mod8 (u64_lt _), mod8 (u64_lt _), sgn_there hk, sgn_there hb, sgn_there hg]
  refine ⟨?_, ?_⟩ <;> first | rfl | trivial
theorem op_ok {tag : Int} {del : Bool} {P : Pos} (hB : Bytes P.zs) (h : (endOp tag del P).short = false) : P.short = false ∧ P.zs = putOp tag (rdOp tag del P) ++ (endOp tag del P).zs := by
  have b1 := past_bytes hB
  have b2 := skip_bytes b1 8
  have b3 := past_bytes b2
  unfold endOp at h ⊢
  unfold putOp rdOp
  by_cases h7 : tag = 7
  · simp only [if_pos h7, List.append_nil] at h ⊢
    exact past_ok hB h
  · simp only [if_neg h7] at h ⊢
    cases del
    · simp only [Bool.false_eq_true, if_false] at h ⊢
      obtain ⟨h3, e3⟩ := skip_ok b3 h
      obtain ⟨h2, e2⟩ := past_ok b2 h3
      obtain ⟨h1, e1⟩ := skip_ok b1 h2
      obtain ⟨h0, e0⟩ := past_ok hB h1
      refine ⟨h0, ?_⟩
      simp only [List.append_assoc]
      conv => lhs; rw [e0, e1, e2, e3]
    · simp only [if_true, List.append_nil] at h ⊢
      obtain ⟨h1, e1⟩ := skip_ok b1 h
      obtain ⟨h0, e0⟩ := past_ok hB h1
      refine ⟨h0, ?_⟩
      simp only [List.append_assoc]
      conv => lhs; rw [e0, e1]
theorem nothing_size : nothing.size = 0 := rfl
/- What is read as an op. -/
theorem op_front {tag : Int} {del : Bool} {P : Pos} (hB : Bytes P.zs) (ys : List Int) (s : Bool) : rdOp tag del ⟨putOp tag (rdOp tag del P) ++ ys, s⟩ = rdOp tag del P ∧ endOp tag del ⟨putOp tag (rdOp tag del P) ++ ys, s⟩ = ⟨ys, s⟩ ∧ badOp tag del ⟨putOp tag (rdOp tag del P) ++ ys, s⟩ = !opLim (rdOp tag del P) := by
  have b1 := past_bytes hB
  have b2 := skip_bytes b1 8
  have b3 := past_bytes b2
  have t1 := (txt_le P hB).1
  have t2 := (txt_le (P.past.skip 8) b2).1
  unfold endOp badOp badText putOp opLim rdOp
  by_cases h7 : tag = 7
  · simp only [if_pos h7, List.append_nil]
    rw [txt_front _ t1, past_front _ t1]
    refine ⟨rfl, rfl, ?_⟩
    subst h7
    simp only [nothing_size]
    generalize P.txt.size = n
    rw [Bool.eq_iff_iff]; simp; try omega
  · simp only [if_neg h7]
    cases del
    · simp only [Bool.false_eq_true, if_false, List.append_assoc]
      rw [txt_front _ t1, past_front _ t1, skip_front, num_front, txt_front _ t2, past_front _ t2, skip_front, num_front, mod8 (num8_lt b1), mod8 (num8_lt b3)]
      refine ⟨rfl, rfl, ?_⟩
      generalize P.txt.size = n
      generalize (P.past.skip 8).txt.size = m
      rw [Bool.eq_iff_iff]; simp [h7]; omega
    · simp only [if_true, List.append_nil, List.append_assoc]
      rw [txt_front _ t1, past_front _ t1, skip_front, num_front, mod8 (num8_lt b1)]
      refine ⟨rfl, rfl, ?_⟩
      simp only [nothing_size]
      generalize P.txt.size = n
      rw [Bool.eq_iff_iff]; simp; try omega
theorem op_good {tag : Int} {del : Bool} {P : Pos} : opLim (rdOp tag del P) = !badOp tag del P := by
  unfold badOp badText opLim rdOp
  by_cases h7 : tag = 7
  · subst h7
    simp only [↓reduceIte, nothing_size]
    generalize P.txt.size = n
    rw [Bool.eq_iff_iff]; simp; omega
  · simp only [if_neg h7]
    cases del
    · simp only [Bool.false_eq_true, if_false]
      generalize P.txt.size = n
      generalize (P.past.skip 8).txt.size = m
      rw [Bool.eq_iff_iff]; simp [h7]; omega
    · simp only [if_true, nothing_size]
      generalize P.txt.size = n
      rw [Bool.eq_iff_iff]; simp; omega
theorem rd9_del (P : Pos) : (rd9 P).del = isDel P := by
  unfold rd9 rdOp
  cases isDel P <;> simp
theorem putOne_9 (o : Op) : putOne 9 o = flag o.del ++ putOp 9 o := by unfold putOne; rw [if_pos rfl]
theorem flag_num (b : Bool) (ys : List Int) (s : Bool) : (⟨flag b ++ ys, s⟩ : Pos).num 1 = (if b then 1 else 0) ∧ (⟨flag b ++ ys, s⟩ : Pos).skip 1 = ⟨ys, s⟩ := by
  unfold flag
  rw [num_front, skip_front]
  cases b <;> exact ⟨rfl, rfl⟩
theorem flag_ok {P : Pos} (h : badFlag P = false) : put (P.num 1) 1 = flag (isDel P) := by
  unfold badFlag at h
  have h1 : P.num 1 ≤ 1 := by have := of_decide_eq_false h; omega
  unfold flag isDel
  obtain ⟨n, hn⟩ : ∃ n, n = P.num 1 := ⟨_, rfl⟩
  rw [← hn] at h1 ⊢
  rcases Nat.lt_or_ge n 1 with h0 | h0
  · have : n = 0 := by omega
    subst this; rfl
  · have : n = 1 := by omega
    subst this; rfl
theorem nine_ok {P : Pos} (hB : Bytes P.zs) (h : (end9 P).short = false) (hf : bad9 P = false) : P.short = false ∧ P.zs = putOne 9 (rd9 P) ++ (end9 P).zs ∧ opLim (rd9 P) = true := by
  unfold bad9 at hf
  rw [Bool.or_eq_false_iff] at hf
  obtain ⟨h1, e1⟩ := op_ok (skip_bytes hB 1) h
  obtain ⟨h0, e0⟩ := skip_ok hB h1
  refine ⟨h0, ?_, ?_⟩
  · rw [putOne_9, rd9_del, ← flag_ok hf.1, List.append_assoc]
    conv => lhs; rw [e0, e1]
    rfl
  · show opLim (rdOp 9 (isDel P) (P.skip 1)) = true
    rw [op_good, hf.2]; rfl
theorem nine_front {P : Pos} (hB : Bytes P.zs) (ys : List Int) (s : Bool) : rd9 ⟨putOne 9 (rd9 P) ++ ys, s⟩ = rd9 P ∧ end9 ⟨putOne 9 (rd9 P) ++ ys, s⟩ = ⟨ys, s⟩ ∧ bad9 ⟨putOne 9 (rd9 P) ++ ys, s⟩ = !opLim (rd9 P) := by
  have hd : isDel ⟨flag (rd9 P).del ++ (putOp 9 (rd9 P) ++ ys), s⟩ = isDel P := by
    unfold isDel
    rw [(flag_num _ _ _).1, rd9_del]
    unfold isDel
    cases P.num 1 == 1 <;> rfl
  have hbf : badFlag ⟨flag (rd9 P).del ++ (putOp 9 (rd9 P) ++ ys), s⟩ = false := by
    unfold badFlag
    rw [(flag_num _ _ _).1]
    cases (rd9 P).del <;> rfl
  obtain ⟨k1, k2, k3⟩ := op_front (tag := 9) (del := isDel P) (skip_bytes hB 1) ys s
  rw [putOne_9, List.append_assoc]
  refine ⟨?_, ?_, ?_⟩
  · show rdOp 9 (isDel ⟨flag (rd9 P).del ++ (putOp 9 (rd9 P) ++ ys), s⟩) ((⟨flag (rd9 P).del ++ (putOp 9 (rd9 P) ++ ys), s⟩ : Pos).skip 1) = rd9 P
    rw [hd, (flag_num _ _ _).2]
    exact k1
  · unfold end9
    rw [hd, (flag_num _ _ _).2]
    exact k2
  · unfold bad9
    rw [hd, hbf, (flag_num _ _ _).2, Bool.false_or]
    exact k3
theorem nines_ok (n : Nat) {P : Pos} (hB : Bytes P.zs) (h : (at9 n P).short = false) (hf : bads9 n P = false) : P.short = false ∧ P.zs = (ops9 n P).flatMap (putOne 9) ++ (at9 n P).zs ∧ (ops9 n P).all opLim = true := by
  induction n generalizing P with
  | zero => exact ⟨h, rfl, rfl⟩
  | succ n ih =>
    rw [bads9, Bool.or_eq_false_iff] at hf
    obtain ⟨h1, e1, a1⟩ := ih (end9_bytes hB) h hf.2
    obtain ⟨h0, e0, a0⟩ := nine_ok hB h1 hf.1
    refine ⟨h0, ?_, ?_⟩
    · rw [ops9, List.flatMap_cons, List.append_assoc, at9]
      conv => lhs; rw [e0, e1]
    · rw [ops9, List.all_cons, a0, a1]; rfl
theorem nines_front (n : Nat) {P : Pos} (hB : Bytes P.zs) (ys : List Int) (s : Bool) : ops9 n ⟨(ops9 n P).flatMap (putOne 9) ++ ys, s⟩ = ops9 n P ∧ at9 n ⟨(ops9 n P).flatMap (putOne 9) ++ ys, s⟩ = ⟨ys, s⟩ ∧ bads9 n ⟨(ops9 n P).flatMap (putOne 9) ++ ys, s⟩ = !(ops9 n P).all opLim := by
  induction n generalizing P with
  | zero => exact ⟨rfl, rfl, rfl⟩
  | succ n ih =>
    obtain ⟨k1, k2, k3⟩ := ih (end9_bytes hB)
    obtain ⟨m1, m2, m3⟩ := nine_front hB ((ops9 n (end9 P)).flatMap (putOne 9) ++ ys) s
    have e : (ops9 (n + 1) P).flatMap (putOne 9) ++ ys = putOne 9 (rd9 P) ++ ((ops9 n (end9 P)).flatMap (putOne 9) ++ ys) := by rw [ops9, List.flatMap_cons, List.append_assoc]
    rw [e]
    refine ⟨?_, ?_, ?_⟩
    · rw [ops9, m1, m2, k1]; rfl
    · rw [at9, m2, k2]
    · rw [bads9, m3, m2, k3, ops9, List.all_cons, Bool.not_and]
theorem readRq_tag (P : Pos) : (readRq P).tag = ((P.num 1 : Nat) : Int) := rdBody_tag _ _
/- The body of a request. -/
def fineBody (t : Int) (Q : Pos) : Prop := badBody t Q = false ∧ (endBody t Q).short = false
set_option maxRecDepth 100000 in
theorem body_ok {t : Int} {Q : Pos} (hB : Bytes Q.zs) (h : fineBody t Q) : Q.short = false ∧ Q.zs = more (rdBody t Q) ++ (endBody t Q).zs ∧ lim (rdBody t Q) = true := by
  obtain ⟨hb, hs⟩ := h
  have bT := endTok_bytes hB
  rcases classes (t := t) with c | c | c | c | c | c | c | c | c | c
  · rw [endBody_c1 c] at hs ⊢
    rw [badBody_c1 c, Bool.or_eq_false_iff] at hb
    rw [more_c1 (by rw [rdBody_tag]; exact c), rdBody_c1 c]
    have b1 := skip_bytes hB 8
    obtain ⟨h2, e2⟩ := quo_ok (skip_bytes b1 1) hs
    obtain ⟨h1, e1⟩ := skip_ok b1 h2
    obtain ⟨h0, e0⟩ := skip_ok hB h1
    have hn := of_decide_eq_false hb.1
    have hm : mayQuo (rdQuo ((Q.skip 8).skip 1)) = true := by simpa using hb.2
    refine ⟨h0, ?_, ?_⟩
    · simp only [List.append_assoc]
      rw [u64_nat (by omega)]
      conv => lhs; rw [e0, e1, e2]
    · simp only [lim, hm, opsLim, leastOf, mostOf, nothing_size, List.length_nil, List.all_nil]
      simp; omega
  · rw [endBody_c2 c] at hs ⊢
    rw [badBody_c2 c] at hb
    rw [more_c2 (by rw [rdBody_tag]; exact c), rdBody_c2 c]
    have b1 := skip_bytes hB 8
    obtain ⟨h1, e1⟩ := skip_ok b1 hs
    obtain ⟨h0, e0⟩ := skip_ok hB h1
    have hn := of_decide_eq_false hb
    refine ⟨h0, ?_, ?_⟩
    · simp only [List.append_assoc]
      rw [u64_nat (by omega)]
      conv => lhs; rw [e0, e1]
    · simp only [lim, show mayQuo zeroQuo = true from rfl, opsLim, leastOf, mostOf, nothing_size, List.length_nil, List.all_nil]
      simp; omega
  · rw [endBody_c4 c] at hs ⊢
    rw [more_c4 (by rw [rdBody_tag]; exact c), rdBody_c4 c]
    obtain ⟨h0, e0⟩ := skip_ok hB hs
    refine ⟨h0, e0, ?_⟩
    simp only [lim, show mayQuo zeroQuo = true from rfl, opsLim, leastOf, mostOf, nothing_size, List.length_nil, List.all_nil]
    simp; omega
  · rw [endBody_c9 c] at hs ⊢
    rw [badBody_c9 c, Bool.or_eq_false_iff, Bool.or_eq_false_iff] at hb
    rw [more_c6 (by rw [rdBody_tag]; omega), rdBody_c9 c]
    obtain ⟨h2, e2, a2⟩ := nines_ok _ (skip_bytes bT 1) hs hb.2.2
    obtain ⟨h1, e1⟩ := skip_ok bT h2
    obtain ⟨h0, e0⟩ := tok_ok hB h1
    have hn1 := of_decide_eq_false hb.1
    have hn2 := of_decide_eq_false hb.2.1
    refine ⟨h0, ?_, ?_⟩
    · subst c
      simp only [putOps, if_true, List.append_assoc, ops9_length]
      conv => lhs; rw [e0, e1, e2]
    · subst c
      simp only [lim, show mayQuo zeroQuo = true from rfl, opsLim, leastOf, mostOf, nothing_size, ops9_length, a2]
      simp; omega
  · rw [endBody_c6 c] at hs ⊢
    rw [badBody_c6 c] at hb
    rw [more_c6 (by rw [rdBody_tag]; omega), rdBody_c6 c]
    obtain ⟨h1, e1⟩ := op_ok bT hs
    obtain ⟨h0, e0⟩ := tok_ok hB h1
    have hg : opLim (rdOp t (decide (t = 8)) (endTok Q)) = true := by rw [op_good, hb]; rfl
    have c9 : ¬ t = 9 := by omega
    refine ⟨h0, ?_, ?_⟩
    · simp only [putOps, putOne, if_neg c9, List.append_assoc, List.nil_append, List.flatMap_cons, List.flatMap_nil, List.append_nil]
      conv => lhs; rw [e0, e1]
    · simp only [lim, show mayQuo zeroQuo = true from rfl, opsLim, leastOf, mostOf, nothing_size, List.length_cons, List.length_nil, List.all_cons, List.all_nil, hg, if_neg c9, if_pos c, if_pos (show 6 ≤ t ∧ t ≤ 9 by omega)]
      simp; omega
  · rw [endBody_c10 c] at hs ⊢
    rw [badBody_c10 c, Bool.or_eq_false_iff, Bool.or_eq_false_iff] at hb
    rw [more_c10 (by rw [rdBody_tag]; exact c), rdBody_c10 c]
    have bP := past_bytes bT
    have b1 := skip_bytes bP 1
    obtain ⟨h3, e3⟩ := skip_ok b1 hs
    obtain ⟨h2, e2⟩ := skip_ok bP h3
    obtain ⟨h1, e1⟩ := past_ok bT h2
    obtain ⟨h0, e0⟩ := tok_ok hB h1
    have hn := of_decide_eq_false hb.2.2
    have ha : ¬ 64 < (endTok Q).txt.size := by have := hb.1; unfold badText at this; rw [Bool.or_eq_false_iff] at this; exact of_decide_eq_false this.2
    refine ⟨h0, ?_, ?_⟩
    · simp only [List.append_assoc]
      rw [← flag_ok hb.2.1, u64_nat (by omega)]
      conv => lhs; rw [e0, e1, e2, e3]
    · simp only [lim, show mayQuo zeroQuo = true from rfl, opsLim, leastOf, mostOf, nothing_size, List.length_nil, List.all_nil]
      simp; omega
  · rw [endBody_c11 c] at hs ⊢
    rw [more_c11 (by rw [rdBody_tag]; exact c), rdBody_c11 c]
    obtain ⟨h0, e0⟩ := tok_ok hB hs
    refine ⟨h0, e0, ?_⟩
    simp only [lim, show mayQuo zeroQuo = true from rfl, opsLim, leastOf, mostOf, nothing_size, List.length_nil, List.all_nil]
    simp; omega
  · rw [endBody_c12 c] at hs ⊢
    rw [badBody_c12 c, Bool.or_eq_false_iff] at hb
    rw [more_c12 (by rw [rdBody_tag]; exact c), rdBody_c12 c]
    obtain ⟨h1, e1⟩ := skip_ok bT hs
    obtain ⟨h0, e0⟩ := tok_ok hB h1
    have hn1 := of_decide_eq_false hb.1
    have hn2 := of_decide_eq_false hb.2
    refine ⟨h0, ?_, ?_⟩
    · simp only [List.append_assoc]
      rw [u64_nat (by omega)]
      conv => lhs; rw [e0, e1]
    · simp only [lim, show mayQuo zeroQuo = true from rfl, opsLim, leastOf, mostOf, nothing_size, List.length_nil, List.all_nil]
      simp; omega
  · rw [endBody_c13 c] at hs ⊢
    rw [more_c13 (by rw [rdBody_tag]; exact c), rdBody_c13 c]
    obtain ⟨h1, e1⟩ := skip_ok bT hs
    obtain ⟨h0, e0⟩ := tok_ok hB h1
    refine ⟨h0, ?_, ?_⟩
    · simp only [List.append_assoc]
      conv => lhs; rw [e0, e1]
    · simp only [lim, show mayQuo zeroQuo = true from rfl, opsLim, leastOf, mostOf, nothing_size, List.length_nil, List.all_nil]
      simp; omega
  · rw [badBody_c0 c] at hb; cases hb
set_option maxRecDepth 100000 in
theorem body_front {t : Int} {Q : Pos} (hB : Bytes Q.zs) (h : lim (rdBody t Q) = true) (ys : List Int) (s : Bool) :
    rdBody t ⟨more (rdBody t Q) ++ ys, s⟩ = rdBody t Q ∧ endBody t ⟨more (rdBody t Q) ++ ys, s⟩ = ⟨ys, s⟩ ∧ badBody t ⟨more (rdBody t Q) ++ ys, s⟩ = false := by
  have bT := endTok_bytes hB
  have hT := rdTok_is hB
  have b1 := skip_bytes hB 8
  have n8 := num8_lt hB
  rcases classes (t := t) with c | c | c | c | c | c | c | c | c | c
  · rw [rdBody_c1 c] at h
    rw [more_c1 (by rw [rdBody_tag]; exact c), rdBody_c1 c, rdBody_c1 c, endBody_c1 c, badBody_c1 c]
    simp only [lim, Bool.and_eq_true, decide_eq_true_eq] at h
    have hn := h.2.2.1
    obtain ⟨k1, k2⟩ := quo_front (rdQuo_is ((Q.skip 8).skip 1)) ys s
    have n1 := num1_lt b1
    simp only [List.append_assoc, skip_front, num_front]
    rw [u64_nat (by omega), mod8 n8, mod1 n1, k1, k2]
    refine ⟨by first | rfl | trivial, by first | rfl | trivial, ?_⟩
    rw [h.2.2.2.1]
    simp; omega
  · rw [rdBody_c2 c] at h
    rw [more_c2 (by rw [rdBody_tag]; exact c), rdBody_c2 c, rdBody_c2 c, endBody_c2 c, badBody_c2 c]
    simp only [lim, Bool.and_eq_true, decide_eq_true_eq] at h
    have hn := h.2.2.1
    have n1 := num1_lt b1
    simp only [List.append_assoc, skip_front, num_front]
    rw [u64_nat (by omega), mod8 n8, mod1 n1]
    refine ⟨by first | rfl | trivial, by first | rfl | trivial, ?_⟩
    simp; omega
  · rw [more_c4 (by rw [rdBody_tag]; exact c), rdBody_c4 c, rdBody_c4 c, endBody_c4 c, badBody_c4 c]
    simp only [List.append_assoc, skip_front, num_front]
    rw [mod8 n8]
    refine ⟨?_, ?_, ?_⟩ <;> first | rfl | trivial
  · rw [rdBody_c9 c] at h
    rw [more_c6 (by rw [rdBody_tag]; omega), rdBody_c9 c, rdBody_c9 c, endBody_c9 c, badBody_c9 c]
    simp only [lim, opsLim, ops9_length, Bool.and_eq_true, decide_eq_true_eq] at h
    obtain ⟨-, -, -, -, ⟨hl1, hl2, hl3⟩, -⟩ := h
    subst c
    simp only [leastOf, mostOf] at hl1 hl2
    have hl1 : 1 ≤ (endTok Q).num 1 := by simpa using hl1
    have hl2 : (endTok Q).num 1 ≤ 16 := by simpa using hl2
    have n1 := num1_lt bT
    obtain ⟨k1, k2, k3⟩ := nines_front ((endTok Q).num 1) (skip_bytes bT 1) ys s
    simp only [putOps, if_true, List.append_assoc, ops9_length]
    obtain ⟨t1, t2⟩ := tok_front hT (put ((endTok Q).num 1) 1 ++ ((ops9 ((endTok Q).num 1) ((endTok Q).skip 1)).flatMap (putOne 9) ++ ys)) s
    rw [t1, t2, skip_front, num_front, mod1 n1, k1, k2, k3, hl3]
    refine ⟨by first | rfl | trivial, by first | rfl | trivial, ?_⟩
    simp; omega
  · rw [rdBody_c6 c] at h
    rw [more_c6 (by rw [rdBody_tag]; omega), rdBody_c6 c, rdBody_c6 c, endBody_c6 c, badBody_c6 c]
    simp only [lim, opsLim, Bool.and_eq_true, List.all_cons, List.all_nil] at h
    obtain ⟨-, -, -, -, ⟨-, -, hl3, -⟩, -⟩ := h
    have c9 : ¬ t = 9 := by omega
    obtain ⟨k1, k2, k3⟩ := op_front (tag := t) (del := decide (t = 8)) bT ys s
    simp only [putOps, putOne, if_neg c9, List.append_assoc, List.nil_append, List.flatMap_cons, List.flatMap_nil, List.append_nil]
    obtain ⟨t1, t2⟩ := tok_front hT (putOp t (rdOp t (decide (t = 8)) (endTok Q)) ++ ys) s
    rw [t1, t2, k1, k2, k3, hl3]
    refine ⟨?_, ?_, ?_⟩ <;> first | rfl | trivial
  · rw [rdBody_c10 c] at h
    rw [more_c10 (by rw [rdBody_tag]; exact c), rdBody_c10 c, rdBody_c10 c, endBody_c10 c, badBody_c10 c]
    simp only [lim, Bool.and_eq_true, decide_eq_true_eq] at h
    obtain ⟨-, -, -, -, -, ha, hc0, hc1, -⟩ := h
    have tx := (txt_le _ bT).1
    have bP := skip_bytes (past_bytes bT) 1
    have n1 := num1_lt bP
    obtain ⟨d, hd⟩ : ∃ d, d = isDel (endTok Q).past := ⟨_, rfl⟩
    obtain ⟨n, hn⟩ : ∃ n, n = ((endTok Q).past.skip 1).num 1 := ⟨_, rfl⟩
    obtain ⟨x, hx⟩ : ∃ x, x = (endTok Q).txt := ⟨_, rfl⟩
    rw [← hn] at hc0 hc1 n1 ⊢
    rw [← hx] at ha tx ⊢
    rw [← hd]
    simp only [List.append_assoc]
    obtain ⟨t1, t2⟩ := tok_front hT (text x ++ (flag d ++ (put (u64 (n : Int)) 1 ++ ys))) s
    have f1 := flag_num d (put (u64 (n : Int)) 1 ++ ys) s
    rw [t1, t2, txt_front _ tx, past_front _ tx, f1.2, num_front, skip_front, u64_nat (by omega), mod1 n1]
    have e1 : isDel ⟨flag d ++ (put n 1 ++ ys), s⟩ = d := by unfold isDel; rw [(flag_num _ _ _).1]; cases d <;> rfl
    have e2 : badFlag ⟨flag d ++ (put n 1 ++ ys), s⟩ = false := by unfold badFlag; rw [(flag_num _ _ _).1]; cases d <;> rfl
    rw [e1, e2]
    refine ⟨by first | rfl | trivial, by first | rfl | trivial, ?_⟩
    unfold badText
    rw [txt_front _ tx]
    simp; omega
  · rw [more_c11 (by rw [rdBody_tag]; exact c), rdBody_c11 c, rdBody_c11 c, endBody_c11 c, badBody_c11 c]
    obtain ⟨t1, t2⟩ := tok_front hT ys s
    rw [t1, t2]
    refine ⟨?_, ?_, ?_⟩ <;> first | rfl | trivial
  · rw [rdBody_c12 c] at h
    rw [more_c12 (by rw [rdBody_tag]; exact c), rdBody_c12 c, rdBody_c12 c, endBody_c12 c, badBody_c12 c]
    simp only [lim, Bool.and_eq_true, decide_eq_true_eq] at h
    have hr := h.2.2.2.2.2.2.2.2
    have n1 := num1_lt bT
    obtain ⟨n, hn⟩ : ∃ n, n = (endTok Q).num 1 := ⟨_, rfl⟩
    rw [← hn] at hr n1 ⊢
    simp only [List.append_assoc]
    obtain ⟨t1, t2⟩ := tok_front hT (put (u64 (n : Int)) 1 ++ ys) s
    rw [t1, t2, num_front, skip_front, u64_nat (by omega), mod1 n1]
    refine ⟨by first | rfl | trivial, by first | rfl | trivial, ?_⟩
    simp; omega
  · rw [more_c13 (by rw [rdBody_tag]; exact c), rdBody_c13 c, rdBody_c13 c, endBody_c13 c, badBody_c13 c]
    simp only [List.append_assoc]
    obtain ⟨t1, t2⟩ := tok_front hT (put ((endTok Q).num 4) 4 ++ ys) s
    rw [t1, t2, num_front, skip_front, mod4 (num4_lt bT)]
    refine ⟨?_, ?_, ?_⟩ <;> first | rfl | trivial
  · rw [rdBody_c0 c] at h
    simp only [lim, Bool.and_eq_true, decide_eq_true_eq] at h
    omega
theorem read_front {P : Pos} (hB : Bytes P.zs) (h : lim (readRq P) = true) (ys : List Int) (s : Bool) :
    readRq ⟨bytesOf (readRq P) ++ ys, s⟩ = readRq P ∧ endRq ⟨bytesOf (readRq P) ++ ys, s⟩ = ⟨ys, s⟩ ∧ bad ⟨bytesOf (readRq P) ++ ys, s⟩ = false := by
  have n1 := num1_lt hB
  obtain ⟨k1, k2, k3⟩ := body_front (t := ((P.num 1 : Nat) : Int)) (skip_bytes hB 1) h ys s
  unfold bytesOf
  rw [List.append_assoc]
  have e1 : (⟨put (u64 (readRq P).tag) 1 ++ (more (readRq P) ++ ys), s⟩ : Pos).num 1 = P.num 1 := by
    rw [num_front, readRq_tag, u64_nat (by omega), mod1 n1]
  have e2 : (⟨put (u64 (readRq P).tag) 1 ++ (more (readRq P) ++ ys), s⟩ : Pos).skip 1 = ⟨more (readRq P) ++ ys, s⟩ := skip_front _ _ _ _
  refine ⟨?_, ?_, ?_⟩
  · show rdBody (((⟨put (u64 (readRq P).tag) 1 ++ (more (readRq P) ++ ys), s⟩ : Pos).num 1 : Nat) : Int) ((⟨put (u64 (readRq P).tag) 1 ++ (more (readRq P) ++ ys), s⟩ : Pos).skip 1) = readRq P
    rw [e1, e2]; exact k1
  · unfold endRq
    rw [e1, e2]; exact k2
  · unfold bad
    rw [e1, e2]; exact k3
/- Bytes are a request's as the program says just if they are as the document says. -/
theorem rq_iff {zs : List Int} (hB : Bytes zs) : isRq zs = good zs := by
  rw [Bool.eq_iff_iff]
  unfold isRq good
  simp only [Bool.and_eq_true, decide_eq_true_eq, Bool.not_eq_true']
  constructor
  · rintro ⟨h1, h2⟩
    obtain ⟨k1, k2, k3⟩ := read_front (P := ⟨zs, false⟩) hB h1 [] false
    rw [List.append_nil, h2] at k2 k3
    rw [k2]
    exact ⟨k3, rfl, rfl⟩
  · rintro ⟨h1, h2, h3⟩
    obtain ⟨k0, k1, k2⟩ := body_ok (t := (((⟨zs, false⟩ : Pos).num 1 : Nat) : Int)) (Q := (⟨zs, false⟩ : Pos).skip 1) (skip_bytes (p := ⟨zs, false⟩) hB 1) ⟨h1, h2⟩
    obtain ⟨m0, m1⟩ := skip_ok (P := ⟨zs, false⟩) hB k0
    refine ⟨k2, ?_⟩
    have h3 : (endBody (((⟨zs, false⟩ : Pos).num 1 : Nat) : Int) ((⟨zs, false⟩ : Pos).skip 1)).zs = [] := h3
    rw [h3, List.append_nil] at k1
    unfold bytesOf
    rw [readRq_tag, u64_nat (by have := num1_lt (P := ⟨zs, false⟩) hB; omega)]
    exact (m1.trans (by rw [k1]; rfl)).symm
/- Whether a request may be put, as the program says. -/
def mayPut (q : Rq) : Prop := lim q = true ∧ readRq ⟨bytesOf q, false⟩ = q
theorem more_bytes (q : Rq) : Bytes (more q) := by
  have hk : ∀ t, Bytes (putTok t) := fun t => bytes_append (put_bytes _ _) (bytes_append (put_bytes _ _) (bytes_append (put_bytes _ _) (put_bytes _ _)))
  have hop : ∀ t o, Bytes (putOp t o) := fun t o => by
    unfold putOp
    refine bytes_append (text_bytes _) ?_
    split
    · exact bytes_nil
    · refine bytes_append (put_bytes _ _) ?_
      split
      · exact bytes_nil
      · exact bytes_append (text_bytes _) (put_bytes _ _)
  have hops : ∀ t l, Bytes (putOps t l) := fun t l => by
    unfold putOps
    refine bytes_append (by split; exact put_bytes _ _; exact bytes_nil) ?_
    intro z hz
    obtain ⟨o, _, ho⟩ := List.mem_flatMap.1 hz
    refine bytes_append ?_ (hop t o) z ho
    split
    · exact put_bytes _ _
    · exact bytes_nil
  unfold more
  repeat' split
  · exact bytes_append (put_bytes _ _) (bytes_append (put_bytes _ _) (bytes_append (put_bytes _ _) (bytes_append (put_bytes _ _) (put_bytes _ _))))
  · exact bytes_append (put_bytes _ _) (put_bytes _ _)
  · exact put_bytes _ _
  · exact bytes_append (hk _) (hops _ _)
  · exact bytes_append (hk _) (bytes_append (text_bytes _) (bytes_append (put_bytes _ _) (put_bytes _ _)))
  · exact hk _
  · exact bytes_append (hk _) (put_bytes _ _)
  · exact bytes_append (hk _) (put_bytes _ _)
  · exact bytes_nil
theorem bytesOf_bytes (q : Rq) : Bytes (bytesOf q) := bytes_append (put_bytes _ _) (more_bytes q)
/- The bytes of any request as the document's. -/
def refMore (q : Rq) : List Int :=
  (if q.tag ≤ 5 then put q.admin 8 else putTok q.tok) ++ ((if q.tag ≤ 3 then put (u64 q.bucket) 1 else []) ++
  ((if q.tag = 1 ∨ q.tag = 3 then putQuo q.quo else if q.tag = 9 then put q.ops.length 1 else if q.tag = 10 then text q.after ++ (flag q.first ++ put (u64 q.count) 1)
    else if q.tag = 12 then put (u64 q.rights) 1 else if q.tag = 13 then put q.serial 4 else []) ++ q.ops.flatMap (putOne q.tag)))
def refBytes (q : Rq) : List Int := put (u64 q.tag) 1 ++ refMore q
theorem refMore_eq {q : Rq} (ht : 1 ≤ q.tag ∧ q.tag ≤ 13) (ho : (6 ≤ q.tag ∧ q.tag ≤ 9) ∨ q.ops = []) : refMore q = more q := by
  unfold refMore
  rcases classes (t := q.tag) with c | c | c | c | c | c | c | c | c | c
  · rw [more_c1 c, if_pos (by omega), if_pos (by omega), if_pos c, ho.resolve_left (by omega)]; simp
  · rw [more_c2 c, if_pos (by omega), if_pos (by omega), if_neg (by omega), if_neg (by omega), if_neg (by omega), if_neg (by omega), if_neg (by omega), ho.resolve_left (by omega)]; simp
  · rw [more_c4 c, if_pos (by omega), if_neg (by omega), if_neg (by omega), if_neg (by omega), if_neg (by omega), if_neg (by omega), if_neg (by omega), ho.resolve_left (by omega)]; simp
  · rw [more_c6 (by omega), if_neg (by omega), if_neg (by omega), if_neg (by omega), if_pos c]; unfold putOps; rw [if_pos c]; simp
  · rw [more_c6 (by omega), if_neg (by omega), if_neg (by omega), if_neg (by omega), if_neg (by omega), if_neg (by omega), if_neg (by omega), if_neg (by omega)]; unfold putOps; rw [if_neg (by omega)]; simp
  · rw [more_c10 c, if_neg (by omega), if_neg (by omega), if_neg (by omega), if_neg (by omega), if_pos c, ho.resolve_left (by omega)]; simp
  · rw [more_c11 c, if_neg (by omega), if_neg (by omega), if_neg (by omega), if_neg (by omega), if_neg (by omega), if_neg (by omega), if_neg (by omega), ho.resolve_left (by omega)]; simp
  · rw [more_c12 c, if_neg (by omega), if_neg (by omega), if_neg (by omega), if_neg (by omega), if_neg (by omega), if_pos c, ho.resolve_left (by omega)]; simp
  · rw [more_c13 c, if_neg (by omega), if_neg (by omega), if_neg (by omega), if_neg (by omega), if_neg (by omega), if_neg (by omega), if_pos c, ho.resolve_left (by omega)]; simp
  · omega
theorem rdBody_ops {t : Int} (Q : Pos) (h : ¬ (6 ≤ t ∧ t ≤ 9)) : (rdBody t Q).ops = [] := by
  rcases classes (t := t) with c | c | c | c | c | c | c | c | c | c
  · rw [rdBody_c1 c]
  · rw [rdBody_c2 c]
  · rw [rdBody_c4 c]
  · omega
  · omega
  · rw [rdBody_c10 c]
  · rw [rdBody_c11 c]
  · rw [rdBody_c12 c]
  · rw [rdBody_c13 c]
  · rw [rdBody_c0 c]
theorem lim_tag {q : Rq} (h : lim q = true) : 1 ≤ q.tag ∧ q.tag ≤ 13 := by
  unfold lim at h
  simp only [Bool.and_eq_true, decide_eq_true_eq] at h
  exact h.1
theorem lim_ops {q : Rq} (h : lim q = true) : q.ops.length ≤ 16 ∧ ((6 ≤ q.tag ∧ q.tag ≤ 9) ∨ q.ops = []) := by
  unfold lim opsLim at h
  simp only [Bool.and_eq_true, decide_eq_true_eq] at h
  have h1 := h.2.2.2.2.1.2.1
  unfold mostOf at h1
  refine ⟨by split at h1; exact h1; split at h1 <;> omega, ?_⟩
  by_cases c : 6 ≤ q.tag ∧ q.tag ≤ 9
  · exact .inl c
  · right
    rw [if_neg (by omega), if_neg (by omega)] at h1
    exact List.eq_nil_of_length_eq_zero (by omega)
/- Whether the document's Written says that there are bytes. -/
def mayWrite (q : Rq) : Prop := (1 ≤ q.tag ∧ q.tag ≤ 13) ∧ q.ops.length ≤ 16 ∧ good (refBytes q) = true ∧ readRq ⟨refBytes q, false⟩ = q
theorem put_written (q : Rq) (h : mayPut q) : mayWrite q ∧ refBytes q = bytesOf q := by
  obtain ⟨h1, h2⟩ := h
  have ht := lim_tag h1
  have ho := lim_ops h1
  have e : refBytes q = bytesOf q := by unfold refBytes bytesOf; rw [refMore_eq ht ho.2]
  refine ⟨⟨ht, ho.1, ?_, ?_⟩, e⟩
  · rw [e, ← rq_iff (bytesOf_bytes q)]
    unfold isRq
    rw [h2, h1]
    simp
  · rw [e]; exact h2
theorem written_put (q : Rq) (h : mayWrite q) : mayPut q := by
  obtain ⟨ht, hl, hg, hr⟩ := h
  have ho : (6 ≤ q.tag ∧ q.tag ≤ 9) ∨ q.ops = [] := by
    by_cases c : 6 ≤ q.tag ∧ q.tag ≤ 9
    · exact .inl c
    · right
      have e : (((⟨refBytes q, false⟩ : Pos).num 1 : Nat) : Int) = q.tag := (readRq_tag _).symm.trans (congrArg Rq.tag hr)
      have e2 := congrArg Rq.ops hr
      rw [← e2]
      exact rdBody_ops _ (by rw [e]; exact c)
  have e : refBytes q = bytesOf q := by unfold refBytes bytesOf; rw [refMore_eq ht ho]
  rw [e] at hg hr
  refine ⟨?_, hr⟩
  rw [← rq_iff (bytesOf_bytes q)] at hg
  unfold isRq at hg
  rw [Bool.and_eq_true, hr] at hg
  exact hg.1
end Go.Proofs.Ytbdbbnpkekcefaa.Cmd
