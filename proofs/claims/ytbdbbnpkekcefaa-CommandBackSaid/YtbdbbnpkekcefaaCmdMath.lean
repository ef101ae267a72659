/- Requests as numbers and texts, their bytes, and what bytes are read as: plain lists, no word of the code. -/
import Derived.Test.YtbdbbnpkekcefaaPackKit
import Derived.RowKit
namespace Go.Proofs.Ytbdbbnpkekcefaa.Cmd
open Go.Proofs.Ytbdbbnpkekcefaa.Mem Go.Proofs.Ytbdbbnpkekcefaa.Pack
set_option linter.unusedVariables false
set_option linter.unusedSimpArgs false

def sgn (n : Nat) : Int := RowKit.wrap64 (n : Int)
def u64 (z : Int) : Nat := (z % 18446744073709551616).toNat
theorem u64_lt (z : Int) : u64 z < 18446744073709551616 := by unfold u64; omega
theorem u64_nat {n : Nat} (h : n < 18446744073709551616) : u64 (n : Int) = n := by unfold u64; omega
theorem u64_cast (z : Int) : ((u64 z : Nat) : Int) = z % 18446744073709551616 := by unfold u64; omega
theorem u64_byte (z : Int) : put (u64 z) 1 = [z % 256] := by
  show [((u64 z % 256 : Nat) : Int)] = _
  congr 1
  unfold u64
  omega
theorem put_byte (n : Nat) : put n 1 = [((n % 256 : Nat) : Int)] := rfl
/- What is read in a row: numbers of so many bytes, and a text. -/
structure Pos where
  zs : List Int
  short : Bool
def Pos.num (p : Pos) (k : Nat) : Nat := Pack.num (got p.zs k)
def Pos.skip (p : Pos) (k : Nat) : Pos := ⟨left p.zs k, shortBy p.zs k p.short⟩
def Pos.txt (p : Pos) : ByteArray := strOfNums (textGot p.zs)
def Pos.past (p : Pos) : Pos := ⟨textLeft p.zs, textShort p.zs p.short⟩
theorem skip_le (p : Pos) (k : Nat) : (p.skip k).zs.length ≤ p.zs.length := left_length_le _ _
theorem past_le (p : Pos) : p.past.zs.length ≤ p.zs.length := Nat.le_trans (left_length_le _ _) (left_length_le _ _)
theorem skip_bytes {p : Pos} (h : Bytes p.zs) (k : Nat) : Bytes (p.skip k).zs := left_bytes h k
theorem past_bytes {p : Pos} (h : Bytes p.zs) : Bytes p.past.zs := left_bytes (left_bytes h 2) _
theorem txt_le (p : Pos) (h : Bytes p.zs) : p.txt.size ≤ 65535 ∧ p.txt.size ≤ p.zs.length := by
  have h1 : p.txt.size = (textGot p.zs).length := by
    rw [← strBytes_length]
    show (strBytes (strOfNums (textGot p.zs))).length = _
    rw [strBytes_strOf (show Bytes (textGot p.zs) from got_bytes (left_bytes h 2) _)]
  have h2 : textLen p.zs < 65536 := num_got2_lt h
  have h3 : (textGot p.zs).length ≤ textLen p.zs := got_length_le _ _
  have h4 : (textGot p.zs).length ≤ (left p.zs 2).length := by
    unfold textGot got
    split <;> simp; omega
  have h5 := left_length_le p.zs 2
  omega
theorem pos_num_lt {P : Pos} (h : Bytes P.zs) (k m : Nat) (hk : 256 ^ k = m) : P.num k < m := by
  have h1 := num_lt (got_bytes h k)
  have h2 : 256 ^ (got P.zs k).length ≤ 256 ^ k := pow256_le (got_length_le P.zs k)
  rw [← hk]
  exact Nat.lt_of_lt_of_le h1 h2
theorem num1_lt {P : Pos} (h : Bytes P.zs) : P.num 1 < 256 := pos_num_lt h 1 _ (by decide)
theorem num4_lt {P : Pos} (h : Bytes P.zs) : P.num 4 < 4294967296 := pos_num_lt h 4 _ (by decide)
theorem num8_lt {P : Pos} (h : Bytes P.zs) : P.num 8 < 18446744073709551616 := pos_num_lt h 8 _ (by decide)
def text (s : ByteArray) : List Int := put s.size 2 ++ strBytes s
theorem text_length (s : ByteArray) : (text s).length = 2 + s.size := by simp [text, put_length, strBytes_length]
theorem text_bytes (s : ByteArray) : Bytes (text s) := bytes_append (put_bytes _ _) (strBytes_bytes s)
theorem skip_front (n k : Nat) (ys : List Int) (s : Bool) : (⟨put n k ++ ys, s⟩ : Pos).skip k = ⟨ys, s⟩ := by
  unfold Pos.skip
  simp only
  rw [left_front _ (put_length _ _), short_front _ (put_length _ _)]
theorem num_front (n k : Nat) (ys : List Int) (s : Bool) : (⟨put n k ++ ys, s⟩ : Pos).num k = n % 256 ^ k := by
  unfold Pos.num
  simp only
  rw [got_front _ (put_length _ _), num_put]
theorem text_app (t : ByteArray) (ys : List Int) : text t ++ ys = put t.size 2 ++ (strBytes t ++ ys) := by
  unfold text; rw [List.append_assoc]
theorem txt_front (t : ByteArray) (ht : t.size ≤ 65535) (ys : List Int) (s : Bool) : (⟨text t ++ ys, s⟩ : Pos).txt = t := by
  unfold Pos.txt
  simp only
  rw [text_app, textGot_front t ht, strOf_strBytes]
theorem past_front (t : ByteArray) (ht : t.size ≤ 65535) (ys : List Int) (s : Bool) : (⟨text t ++ ys, s⟩ : Pos).past = ⟨ys, s⟩ := by
  unfold Pos.past
  simp only
  rw [text_app, textLeft_front t ht, textShort_front t ht]
theorem put_num {zs : List Int} (h : Bytes zs) : put (num zs) zs.length = zs := by
  induction zs with
  | nil => rfl
  | cons z zs ih =>
    have hz := h z List.mem_cons_self
    have h2 := ih (fun x hx => h x (List.mem_cons_of_mem _ hx))
    rw [num, List.length_cons, put]
    have e1 : (z.toNat + 256 * num zs) % 256 = z.toNat := by omega
    have e2 : (z.toNat + 256 * num zs) / 256 = num zs := by omega
    rw [e1, e2, h2]
    congr 1
    omega
theorem skip_ok {P : Pos} {k : Nat} (hB : Bytes P.zs) (h : (P.skip k).short = false) : P.short = false ∧ P.zs = put (P.num k) k ++ (P.skip k).zs := by
  have h1 : shortBy P.zs k P.short = false := h
  unfold shortBy at h1
  split at h1
  · rename_i hk
    refine ⟨h1, ?_⟩
    have e1 : got P.zs k = P.zs.take k := if_pos hk
    have e2 : (P.skip k).zs = P.zs.drop k := if_pos hk
    have e3 : P.num k = num (P.zs.take k) := by unfold Pos.num; rw [e1]
    have e4 : (P.zs.take k).length = k := by rw [List.length_take]; omega
    have e5 := put_num (bytes_take hB k)
    rw [e4] at e5
    rw [e2, e3, e5, List.take_append_drop]
  · cases h1
theorem past_ok {P : Pos} (hB : Bytes P.zs) (h : P.past.short = false) : P.short = false ∧ P.zs = text P.txt ++ P.past.zs := by
  have h1 : shortBy (left P.zs 2) (textLen P.zs) (shortBy P.zs 2 P.short) = false := h
  unfold shortBy at h1
  split at h1
  · rename_i hk
    split at h1
    · rename_i hk2
      refine ⟨h1, ?_⟩
      have e1 : got P.zs 2 = P.zs.take 2 := if_pos hk2
      have e2 : left P.zs 2 = P.zs.drop 2 := if_pos hk2
      have e3 : textLen P.zs = num (P.zs.take 2) := by unfold textLen; rw [e1]
      rw [e2] at hk
      have e4 : textGot P.zs = (P.zs.drop 2).take (textLen P.zs) := by unfold textGot; rw [e2]; exact if_pos hk
      have e5 : P.past.zs = (P.zs.drop 2).drop (textLen P.zs) := by
        show textLeft P.zs = _
        unfold textLeft; rw [e2]; exact if_pos hk
      have hb : Bytes (textGot P.zs) := by rw [e4]; exact bytes_take (bytes_drop hB 2) _
      have e6 : strBytes P.txt = textGot P.zs := strBytes_strOf hb
      have e7 : P.txt.size = textLen P.zs := by rw [← strBytes_length, e6, e4, List.length_take]; omega
      have e8 : (P.zs.take 2).length = 2 := by rw [List.length_take]; omega
      have e9 := put_num (bytes_take hB 2)
      rw [e8, ← e3] at e9
      unfold text
      rw [e6, e7, e9, e4, e5, List.append_assoc, List.take_append_drop, List.take_append_drop]
    · cases h1
  · cases h1
theorem sgn_small {n : Nat} (h : n ≤ 1099511627776) : sgn n = (n : Int) := by
  unfold sgn RowKit.wrap64; omega
theorem sgn_back {n : Nat} (h : n < 18446744073709551616) : u64 (sgn n) = n := by
  unfold u64 sgn RowKit.wrap64; omega
theorem sgn_there {z : Int} (h : -9223372036854775808 ≤ z ∧ z ≤ 9223372036854775807) : sgn (u64 z) = z := by
  unfold u64 sgn RowKit.wrap64; omega
theorem mod1 {n : Nat} (h : n < 256) : n % 256 ^ 1 = n := Nat.mod_eq_of_lt (by rw [Nat.pow_one]; exact h)
theorem pow4 : (256 : Nat) ^ 4 = 4294967296 := by decide
theorem pow8 : (256 : Nat) ^ 8 = 18446744073709551616 := by decide
theorem mod4 {n : Nat} (h : n < 4294967296) : n % 256 ^ 4 = n := Nat.mod_eq_of_lt (by rw [pow4]; exact h)
theorem mod8 {n : Nat} (h : n < 18446744073709551616) : n % 256 ^ 8 = n := Nat.mod_eq_of_lt (by rw [pow8]; exact h)

/- Ops, tokens, quotas, requests. -/
structure Op where
  del : Bool
  key : ByteArray
  val : ByteArray
  cond : Nat
  ttl : Nat
structure Tok where
  b : Int
  g : Nat
  s : Nat
  x : Nat
structure Quo where
  k : Int
  b : Int
  g : Int
structure Rq where
  tag : Int
  admin : Nat
  bucket : Int
  quo : Quo
  tok : Tok
  ops : List Op
  after : ByteArray
  first : Bool
  count : Int
  rights : Int
  serial : Nat
def nothing : ByteArray := ⟨#[]⟩
def zeroTok : Tok := ⟨0, 0, 0, 0⟩
def zeroQuo : Quo := ⟨0, 0, 0⟩
def flag (b : Bool) : List Int := put (if b then 1 else 0) 1
def putTok (t : Tok) : List Int := put (u64 t.b) 1 ++ (put t.g 4 ++ (put t.s 4 ++ put t.x 8))
def putQuo (q : Quo) : List Int := put (u64 q.k) 8 ++ (put (u64 q.b) 8 ++ put (u64 q.g) 8)
def putOp (tag : Int) (o : Op) : List Int := text o.key ++ (if tag = 7 then [] else put o.cond 8 ++ (if o.del then [] else text o.val ++ put o.ttl 8))
def putOne (tag : Int) (o : Op) : List Int := (if tag = 9 then flag o.del else []) ++ putOp tag o
def putOps (tag : Int) (l : List Op) : List Int := (if tag = 9 then put l.length 1 else []) ++ l.flatMap (putOne tag)
def more (q : Rq) : List Int :=
  if q.tag = 1 ∨ q.tag = 3 then put q.admin 8 ++ (put (u64 q.bucket) 1 ++ putQuo q.quo)
  else if q.tag = 2 then put q.admin 8 ++ put (u64 q.bucket) 1
  else if q.tag = 4 ∨ q.tag = 5 then put q.admin 8
  else if 6 ≤ q.tag ∧ q.tag ≤ 9 then putTok q.tok ++ putOps q.tag q.ops
  else if q.tag = 10 then putTok q.tok ++ (text q.after ++ (flag q.first ++ put (u64 q.count) 1))
  else if q.tag = 11 then putTok q.tok
  else if q.tag = 12 then putTok q.tok ++ put (u64 q.rights) 1
  else if q.tag = 13 then putTok q.tok ++ put q.serial 4
  else []
def bytesOf (q : Rq) : List Int := put (u64 q.tag) 1 ++ more q
/- Reading. -/
def rdTok (P : Pos) : Tok := ⟨P.num 1, (P.skip 1).num 4, ((P.skip 1).skip 4).num 4, (((P.skip 1).skip 4).skip 4).num 8⟩
def endTok (P : Pos) : Pos := (((P.skip 1).skip 4).skip 4).skip 8
def rdQuo (P : Pos) : Quo := ⟨sgn (P.num 8), sgn ((P.skip 8).num 8), sgn (((P.skip 8).skip 8).num 8)⟩
def endQuo (P : Pos) : Pos := ((P.skip 8).skip 8).skip 8
def rdOp (tag : Int) (del : Bool) (P : Pos) : Op :=
  if tag = 7 then ⟨del, P.txt, nothing, 0, 0⟩
  else if del then ⟨true, P.txt, nothing, P.past.num 8, 0⟩
  else ⟨false, P.txt, (P.past.skip 8).txt, P.past.num 8, ((P.past.skip 8).past).num 8⟩
def endOp (tag : Int) (del : Bool) (P : Pos) : Pos :=
  if tag = 7 then P.past else if del then P.past.skip 8 else ((P.past.skip 8).past).skip 8
/- An op of a batch, its flag ahead of it. -/
def isDel (P : Pos) : Bool := P.num 1 == 1
def rd9 (P : Pos) : Op := rdOp 9 (isDel P) (P.skip 1)
def end9 (P : Pos) : Pos := endOp 9 (isDel P) (P.skip 1)
def at9 : Nat → Pos → Pos
  | 0, P => P
  | k + 1, P => at9 k (end9 P)
def ops9 : Nat → Pos → List Op
  | 0, P => []
  | k + 1, P => rd9 P :: ops9 k (end9 P)
theorem at9_snoc (k : Nat) (P : Pos) : at9 (k + 1) P = end9 (at9 k P) := by
  induction k generalizing P with
  | zero => rfl
  | succ k ih => rw [at9, ih, at9]
theorem ops9_snoc (k : Nat) (P : Pos) : ops9 (k + 1) P = ops9 k P ++ [rd9 (at9 k P)] := by
  induction k generalizing P with
  | zero => rfl
  | succ k ih => rw [ops9, ih, ops9, at9]; rfl
theorem ops9_length (k : Nat) (P : Pos) : (ops9 k P).length = k := by
  induction k generalizing P with
  | zero => rfl
  | succ k ih => rw [ops9, List.length_cons, ih]
theorem endOp_bytes (tag : Int) (del : Bool) {P : Pos} (h : Bytes P.zs) : Bytes (endOp tag del P).zs := by
  unfold endOp
  split
  · exact past_bytes h
  · split
    · exact skip_bytes (past_bytes h) 8
    · exact skip_bytes (past_bytes (skip_bytes (past_bytes h) 8)) 8
theorem end9_bytes {P : Pos} (h : Bytes P.zs) : Bytes (end9 P).zs := endOp_bytes _ _ (skip_bytes h 1)
theorem at9_bytes (k : Nat) {P : Pos} (h : Bytes P.zs) : Bytes (at9 k P).zs := by
  induction k generalizing P with
  | zero => exact h
  | succ k ih => exact ih (end9_bytes h)
theorem endTok_bytes {P : Pos} (h : Bytes P.zs) : Bytes (endTok P).zs := skip_bytes (skip_bytes (skip_bytes (skip_bytes h 1) 4) 4) 8
theorem endQuo_bytes {P : Pos} (h : Bytes P.zs) : Bytes (endQuo P).zs := skip_bytes (skip_bytes (skip_bytes h 8) 8) 8
def rdBody (t : Int) (Q : Pos) : Rq :=
  if t = 1 ∨ t = 3 then ⟨t, Q.num 8, ((Q.skip 8).num 1 : Nat), rdQuo ((Q.skip 8).skip 1), zeroTok, [], nothing, false, 0, 0, 0⟩
  else if t = 2 then ⟨t, Q.num 8, ((Q.skip 8).num 1 : Nat), zeroQuo, zeroTok, [], nothing, false, 0, 0, 0⟩
  else if t = 4 ∨ t = 5 then ⟨t, Q.num 8, 0, zeroQuo, zeroTok, [], nothing, false, 0, 0, 0⟩
  else if t = 9 then ⟨t, 0, 0, zeroQuo, rdTok Q, ops9 ((endTok Q).num 1) ((endTok Q).skip 1), nothing, false, 0, 0, 0⟩
  else if 6 ≤ t ∧ t ≤ 8 then ⟨t, 0, 0, zeroQuo, rdTok Q, [rdOp t (decide (t = 8)) (endTok Q)], nothing, false, 0, 0, 0⟩
  else if t = 10 then ⟨t, 0, 0, zeroQuo, rdTok Q, [], (endTok Q).txt, isDel (endTok Q).past, (((endTok Q).past.skip 1).num 1 : Nat), 0, 0⟩
  else if t = 11 then ⟨t, 0, 0, zeroQuo, rdTok Q, [], nothing, false, 0, 0, 0⟩
  else if t = 12 then ⟨t, 0, 0, zeroQuo, rdTok Q, [], nothing, false, 0, ((endTok Q).num 1 : Nat), 0⟩
  else if t = 13 then ⟨t, 0, 0, zeroQuo, rdTok Q, [], nothing, false, 0, 0, (endTok Q).num 4⟩
  else ⟨t, 0, 0, zeroQuo, zeroTok, [], nothing, false, 0, 0, 0⟩
def readRq (P : Pos) : Rq := rdBody ((P.num 1 : Nat) : Int) (P.skip 1)
def endBody (t : Int) (Q : Pos) : Pos :=
  if t = 1 ∨ t = 3 then endQuo ((Q.skip 8).skip 1)
  else if t = 2 then (Q.skip 8).skip 1
  else if t = 4 ∨ t = 5 then Q.skip 8
  else if t = 9 then at9 ((endTok Q).num 1) ((endTok Q).skip 1)
  else if 6 ≤ t ∧ t ≤ 8 then endOp t (decide (t = 8)) (endTok Q)
  else if t = 10 then ((endTok Q).past.skip 1).skip 1
  else if t = 11 then endTok Q
  else if t = 12 then (endTok Q).skip 1
  else if t = 13 then (endTok Q).skip 4
  else Q
def endRq (P : Pos) : Pos := endBody ((P.num 1 : Nat) : Int) (P.skip 1)
/- Limits. -/
def inQ (z : Int) : Prop := 0 ≤ z ∧ z ≤ 1099511627776
instance (z : Int) : Decidable (inQ z) := inferInstanceAs (Decidable (_ ∧ _))
def mayQuo (q : Quo) : Bool := decide (inQ q.k ∧ inQ q.b ∧ inQ q.g)
def opLim (o : Op) : Bool := decide (1 ≤ o.key.size) && (decide (o.key.size ≤ 64) && decide (o.val.size ≤ 1000))
def leastOf (tag : Int) : Nat := if 6 ≤ tag ∧ tag ≤ 9 then 1 else 0
def mostOf (tag : Int) : Nat := if tag = 9 then 16 else if 6 ≤ tag ∧ tag ≤ 8 then 1 else 0
def opsLim (tag : Int) (l : List Op) : Bool := decide (leastOf tag ≤ l.length) && (decide (l.length ≤ mostOf tag) && l.all opLim)
def lim (q : Rq) : Bool :=
  decide (1 ≤ q.tag ∧ q.tag ≤ 13) && (decide (0 ≤ q.bucket) && (decide (q.bucket < 64) && (mayQuo q.quo && (opsLim q.tag q.ops && (decide (q.after.size ≤ 64) && (decide (0 ≤ q.count) && (decide (q.count ≤ 50) && decide (q.tag ≠ 12 ∨ 1 ≤ q.rights ∧ q.rights ≤ 7))))))))
/- What the document's Parse finds bad. -/
def badFlag (P : Pos) : Bool := decide (1 < P.num 1)
def badText (least most : Nat) (P : Pos) : Bool := decide (P.txt.size < least) || decide (most < P.txt.size)
def badOp (tag : Int) (del : Bool) (P : Pos) : Bool :=
  badText 1 64 P || (decide (tag ≠ 7) && (!del && badText 0 1000 (P.past.skip 8)))
def bad9 (P : Pos) : Bool := badFlag P || badOp 9 (isDel P) (P.skip 1)
def bads9 : Nat → Pos → Bool
  | 0, P => false
  | k + 1, P => bad9 P || bads9 k (end9 P)
theorem bads9_snoc (k : Nat) (P : Pos) : bads9 (k + 1) P = (bads9 k P || bad9 (at9 k P)) := by
  induction k generalizing P with
  | zero => simp [bads9, at9]
  | succ k ih => rw [bads9, ih, bads9, at9, Bool.or_assoc]
def badBody (t : Int) (Q : Pos) : Bool :=
  if t = 1 ∨ t = 3 then decide (63 < (Q.skip 8).num 1) || !mayQuo (rdQuo ((Q.skip 8).skip 1))
  else if t = 2 then decide (63 < (Q.skip 8).num 1)
  else if t = 4 ∨ t = 5 then false
  else if t = 9 then decide ((endTok Q).num 1 < 1) || (decide (16 < (endTok Q).num 1) || bads9 ((endTok Q).num 1) ((endTok Q).skip 1))
  else if 6 ≤ t ∧ t ≤ 8 then badOp t (decide (t = 8)) (endTok Q)
  else if t = 10 then badText 0 64 (endTok Q) || (badFlag (endTok Q).past || decide (50 < ((endTok Q).past.skip 1).num 1))
  else if t = 11 then false
  else if t = 12 then decide ((endTok Q).num 1 < 1) || decide (7 < (endTok Q).num 1)
  else if t = 13 then false
  else true
def bad (P : Pos) : Bool := badBody ((P.num 1 : Nat) : Int) (P.skip 1)
/- Whether bytes are a request's, as the document says. -/
def good (zs : List Int) : Bool := !bad ⟨zs, false⟩ && (!(endRq ⟨zs, false⟩).short && decide ((endRq ⟨zs, false⟩).zs = []))
/- Whether they are, as the program says. -/
def isRq (zs : List Int) : Bool := lim (readRq ⟨zs, false⟩) && decide (bytesOf (readRq ⟨zs, false⟩) = zs)
theorem rdBody_c1 {t : Int} (h : t = 1 ∨ t = 3) (Q : Pos) : rdBody t Q = ⟨t, Q.num 8, ((Q.skip 8).num 1 : Nat), rdQuo ((Q.skip 8).skip 1), zeroTok, [], nothing, false, 0, 0, 0⟩ := by unfold rdBody; rw [if_pos h]
theorem rdBody_c2 {t : Int} (h : t = 2) (Q : Pos) : rdBody t Q = ⟨t, Q.num 8, ((Q.skip 8).num 1 : Nat), zeroQuo, zeroTok, [], nothing, false, 0, 0, 0⟩ := by unfold rdBody; rw [if_neg (by omega), if_pos h]
theorem rdBody_c4 {t : Int} (h : t = 4 ∨ t = 5) (Q : Pos) : rdBody t Q = ⟨t, Q.num 8, 0, zeroQuo, zeroTok, [], nothing, false, 0, 0, 0⟩ := by unfold rdBody; rw [if_neg (by omega), if_neg (by omega), if_pos h]
theorem rdBody_c9 {t : Int} (h : t = 9) (Q : Pos) : rdBody t Q = ⟨t, 0, 0, zeroQuo, rdTok Q, ops9 ((endTok Q).num 1) ((endTok Q).skip 1), nothing, false, 0, 0, 0⟩ := by unfold rdBody; rw [if_neg (by omega), if_neg (by omega), if_neg (by omega), if_pos h]
theorem rdBody_c6 {t : Int} (h : 6 ≤ t ∧ t ≤ 8) (Q : Pos) : rdBody t Q = ⟨t, 0, 0, zeroQuo, rdTok Q, [rdOp t (decide (t = 8)) (endTok Q)], nothing, false, 0, 0, 0⟩ := by unfold rdBody; rw [if_neg (by omega), if_neg (by omega), if_neg (by omega), if_neg (by omega), if_pos h]
theorem rdBody_c10 {t : Int} (h : t = 10) (Q : Pos) : rdBody t Q = ⟨t, 0, 0, zeroQuo, rdTok Q, [], (endTok Q).txt, isDel (endTok Q).past, (((endTok Q).past.skip 1).num 1 : Nat), 0, 0⟩ := by unfold rdBody; rw [if_neg (by omega), if_neg (by omega), if_neg (by omega), if_neg (by omega), if_neg (by omega), if_pos h]
theorem rdBody_c11 {t : Int} (h : t = 11) (Q : Pos) : rdBody t Q = ⟨t, 0, 0, zeroQuo, rdTok Q, [], nothing, false, 0, 0, 0⟩ := by unfold rdBody; rw [if_neg (by omega), if_neg (by omega), if_neg (by omega), if_neg (by omega), if_neg (by omega), if_neg (by omega), if_pos h]
theorem rdBody_c12 {t : Int} (h : t = 12) (Q : Pos) : rdBody t Q = ⟨t, 0, 0, zeroQuo, rdTok Q, [], nothing, false, 0, ((endTok Q).num 1 : Nat), 0⟩ := by unfold rdBody; rw [if_neg (by omega), if_neg (by omega), if_neg (by omega), if_neg (by omega), if_neg (by omega), if_neg (by omega), if_neg (by omega), if_pos h]
theorem rdBody_c13 {t : Int} (h : t = 13) (Q : Pos) : rdBody t Q = ⟨t, 0, 0, zeroQuo, rdTok Q, [], nothing, false, 0, 0, (endTok Q).num 4⟩ := by unfold rdBody; rw [if_neg (by omega), if_neg (by omega), if_neg (by omega), if_neg (by omega), if_neg (by omega), if_neg (by omega), if_neg (by omega), if_neg (by omega), if_pos h]
theorem rdBody_c0 {t : Int} (h : t < 1 ∨ 13 < t) (Q : Pos) : rdBody t Q = ⟨t, 0, 0, zeroQuo, zeroTok, [], nothing, false, 0, 0, 0⟩ := by unfold rdBody; rw [if_neg (by omega), if_neg (by omega), if_neg (by omega), if_neg (by omega), if_neg (by omega), if_neg (by omega), if_neg (by omega), if_neg (by omega), if_neg (by omega)]
theorem endBody_c1 {t : Int} (h : t = 1 ∨ t = 3) (Q : Pos) : endBody t Q = endQuo ((Q.skip 8).skip 1) := by unfold endBody; rw [if_pos h]
theorem endBody_c2 {t : Int} (h : t = 2) (Q : Pos) : endBody t Q = (Q.skip 8).skip 1 := by unfold endBody; rw [if_neg (by omega), if_pos h]
theorem endBody_c4 {t : Int} (h : t = 4 ∨ t = 5) (Q : Pos) : endBody t Q = Q.skip 8 := by unfold endBody; rw [if_neg (by omega), if_neg (by omega), if_pos h]
theorem endBody_c9 {t : Int} (h : t = 9) (Q : Pos) : endBody t Q = at9 ((endTok Q).num 1) ((endTok Q).skip 1) := by unfold endBody; rw [if_neg (by omega), if_neg (by omega), if_neg (by omega), if_pos h]
theorem endBody_c6 {t : Int} (h : 6 ≤ t ∧ t ≤ 8) (Q : Pos) : endBody t Q = endOp t (decide (t = 8)) (endTok Q) := by unfold endBody; rw [if_neg (by omega), if_neg (by omega), if_neg (by omega), if_neg (by omega), if_pos h]
theorem endBody_c10 {t : Int} (h : t = 10) (Q : Pos) : endBody t Q = ((endTok Q).past.skip 1).skip 1 := by unfold endBody; rw [if_neg (by omega), if_neg (by omega), if_neg (by omega), if_neg (by omega), if_neg (by omega), if_pos h]
theorem endBody_c11 {t : Int} (h : t = 11) (Q : Pos) : endBody t Q = endTok Q := by unfold endBody; rw [if_neg (by omega), if_neg (by omega), if_neg (by omega), if_neg (by omega), if_neg (by omega), if_neg (by omega), if_pos h]
theorem endBody_c12 {t : Int} (h : t = 12) (Q : Pos) : endBody t Q = (endTok Q).skip 1 := by unfold endBody; rw [if_neg (by omega), if_neg (by omega), if_neg (by omega), if_neg (by omega), if_neg (by omega), if_neg (by omega), if_neg (by omega), if_pos h]
theorem endBody_c13 {t : Int} (h : t = 13) (Q : Pos) : endBody t Q = (endTok Q).skip 4 := by unfold endBody; rw [if_neg (by omega), if_neg (by omega), if_neg (by omega), if_neg (by omega), if_neg (by omega), if_neg (by omega), if_neg (by omega), if_neg (by omega), if_pos h]
theorem endBody_c0 {t : Int} (h : t < 1 ∨ 13 < t) (Q : Pos) : endBody t Q = Q := by unfold endBody; rw [if_neg (by omega), if_neg (by omega), if_neg (by omega), if_neg (by omega), if_neg (by omega), if_neg (by omega), if_neg (by omega), if_neg (by omega), if_neg (by omega)]
theorem badBody_c1 {t : Int} (h : t = 1 ∨ t = 3) (Q : Pos) : badBody t Q = (decide (63 < (Q.skip 8).num 1) || !mayQuo (rdQuo ((Q.skip 8).skip 1))) := by unfold badBody; rw [if_pos h]
theorem badBody_c2 {t : Int} (h : t = 2) (Q : Pos) : badBody t Q = (decide (63 < (Q.skip 8).num 1)) := by unfold badBody; rw [if_neg (by omega), if_pos h]
theorem badBody_c4 {t : Int} (h : t = 4 ∨ t = 5) (Q : Pos) : badBody t Q = (false) := by unfold badBody; rw [if_neg (by omega), if_neg (by omega), if_pos h]
theorem badBody_c9 {t : Int} (h : t = 9) (Q : Pos) : badBody t Q = (decide ((endTok Q).num 1 < 1) || (decide (16 < (endTok Q).num 1) || bads9 ((endTok Q).num 1) ((endTok Q).skip 1))) := by unfold badBody; rw [if_neg (by omega), if_neg (by omega), if_neg (by omega), if_pos h]
theorem badBody_c6 {t : Int} (h : 6 ≤ t ∧ t ≤ 8) (Q : Pos) : badBody t Q = (badOp t (decide (t = 8)) (endTok Q)) := by unfold badBody; rw [if_neg (by omega), if_neg (by omega), if_neg (by omega), if_neg (by omega), if_pos h]
theorem badBody_c10 {t : Int} (h : t = 10) (Q : Pos) : badBody t Q = (badText 0 64 (endTok Q) || (badFlag (endTok Q).past || decide (50 < ((endTok Q).past.skip 1).num 1))) := by unfold badBody; rw [if_neg (by omega), if_neg (by omega), if_neg (by omega), if_neg (by omega), if_neg (by omega), if_pos h]
theorem badBody_c11 {t : Int} (h : t = 11) (Q : Pos) : badBody t Q = (false) := by unfold badBody; rw [if_neg (by omega), if_neg (by omega), if_neg (by omega), if_neg (by omega), if_neg (by omega), if_neg (by omega), if_pos h]
theorem badBody_c12 {t : Int} (h : t = 12) (Q : Pos) : badBody t Q = (decide ((endTok Q).num 1 < 1) || decide (7 < (endTok Q).num 1)) := by unfold badBody; rw [if_neg (by omega), if_neg (by omega), if_neg (by omega), if_neg (by omega), if_neg (by omega), if_neg (by omega), if_neg (by omega), if_pos h]
theorem badBody_c13 {t : Int} (h : t = 13) (Q : Pos) : badBody t Q = (false) := by unfold badBody; rw [if_neg (by omega), if_neg (by omega), if_neg (by omega), if_neg (by omega), if_neg (by omega), if_neg (by omega), if_neg (by omega), if_neg (by omega), if_pos h]
theorem badBody_c0 {t : Int} (h : t < 1 ∨ 13 < t) (Q : Pos) : badBody t Q = (true) := by unfold badBody; rw [if_neg (by omega), if_neg (by omega), if_neg (by omega), if_neg (by omega), if_neg (by omega), if_neg (by omega), if_neg (by omega), if_neg (by omega), if_neg (by omega)]
theorem more_c1 {q : Rq} (h : q.tag = 1 ∨ q.tag = 3) : more q = put q.admin 8 ++ (put (u64 q.bucket) 1 ++ putQuo q.quo) := by unfold more; rw [if_pos h]
theorem more_c2 {q : Rq} (h : q.tag = 2) : more q = put q.admin 8 ++ put (u64 q.bucket) 1 := by unfold more; rw [if_neg (by omega), if_pos h]
theorem more_c4 {q : Rq} (h : q.tag = 4 ∨ q.tag = 5) : more q = put q.admin 8 := by unfold more; rw [if_neg (by omega), if_neg (by omega), if_pos h]
theorem more_c6 {q : Rq} (h : 6 ≤ q.tag ∧ q.tag ≤ 9) : more q = putTok q.tok ++ putOps q.tag q.ops := by unfold more; rw [if_neg (by omega), if_neg (by omega), if_neg (by omega), if_pos h]
theorem more_c10 {q : Rq} (h : q.tag = 10) : more q = putTok q.tok ++ (text q.after ++ (flag q.first ++ put (u64 q.count) 1)) := by unfold more; rw [if_neg (by omega), if_neg (by omega), if_neg (by omega), if_neg (by omega), if_pos h]
theorem more_c11 {q : Rq} (h : q.tag = 11) : more q = putTok q.tok := by unfold more; rw [if_neg (by omega), if_neg (by omega), if_neg (by omega), if_neg (by omega), if_neg (by omega), if_pos h]
theorem more_c12 {q : Rq} (h : q.tag = 12) : more q = putTok q.tok ++ put (u64 q.rights) 1 := by unfold more; rw [if_neg (by omega), if_neg (by omega), if_neg (by omega), if_neg (by omega), if_neg (by omega), if_neg (by omega), if_pos h]
theorem more_c13 {q : Rq} (h : q.tag = 13) : more q = putTok q.tok ++ put q.serial 4 := by unfold more; rw [if_neg (by omega), if_neg (by omega), if_neg (by omega), if_neg (by omega), if_neg (by omega), if_neg (by omega), if_neg (by omega), if_pos h]
theorem classes {t : Int} : (t = 1 ∨ t = 3) ∨ t = 2 ∨ (t = 4 ∨ t = 5) ∨ t = 9 ∨ (6 ≤ t ∧ t ≤ 8) ∨ t = 10 ∨ t = 11 ∨ t = 12 ∨ t = 13 ∨ (t < 1 ∨ 13 < t) := by omega
theorem rdBody_tag (t : Int) (Q : Pos) : (rdBody t Q).tag = t := by
  unfold rdBody
  repeat' split
  all_goals rfl
end Go.Proofs.Ytbdbbnpkekcefaa.Cmd
