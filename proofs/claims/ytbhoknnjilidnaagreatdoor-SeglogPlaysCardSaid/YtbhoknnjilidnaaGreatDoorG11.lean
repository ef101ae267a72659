/- Whether a record may be: the walks of record.May. What bytes are read as: a record at the front, and all of them. A reader, and beside it two blocks: what is read is stored into the one, and at the end all of it into the other. -/
import Derived.Test.YtbhoknnjilidnaaGreatDoorG09
import Derived.Test.YtbhoknnjilidnaaGreatDoorG10
import Derived.Test.YtbhoknnjilidnaaGreatDoorG04
import Derived.RowKit
import Derived.Test.YtbhoknnjilidnaaGreatDoorG05
import Derived.Test.YtbhoknnjilidnaaGreatDoorG02
import Derived.Great.BuildSlice
import Derived.Laws.Tables
set_option linter.unusedSimpArgs false
set_option linter.unusedVariables false
section
namespace Go.Proofs.YtbhoknnjilidnaaGreatDoor.Rec
open Go.Proofs.YtbhoknnjilidnaaGreatDoor.Mem Go.Proofs.YtbhoknnjilidnaaGreatDoor.Pack
open Go.ChangeShapes Go.WideShapes Go.ChangeAt Go.RowKit
theorem may_any (r:Rcd) (w:World):Calls Tryz.prog 61 #[rv r] w fun e w'=>e = .returned (.bool (decide (May r)))∧Below w.heap.size w w':=by
 by_cases hr:r=named r
 rotate_left
 ·rw [decide_eq_false (fun h:May r=>hr h.2.2.2.2.2.1)]
  exact may_neq r hr w
 by_cases h0:0≤r.bucket
 rotate_left
 ·rw [decide_eq_false (fun h:May r=>h0 h.2.2.1)]
  exact may_low r hr (by omega) w
 by_cases h1:r.bucket < 64
 rotate_left
 ·rw [decide_eq_false (fun h:May r=>h1 h.2.2.2.1)]
  exact may_high r hr h0 (by omega) w
 by_cases h2:1≤r.gen
 rotate_left
 ·rw [decide_eq_false (fun h:May r=>h2 h.2.2.2.2.1)]
  exact may_gen r hr h0 h1 (by omega) w
 have hk:1≤r.kind∧r.kind≤7:=by
  rcases Int.lt_or_le r.kind 1 with h|h
  ·exfalso
   have e:named r=zero:=by
    unfold named
    rw [if_neg (by omega),if_neg (by omega),if_neg (by omega),if_neg (by omega),if_neg (by omega),if_neg (by omega)]
   rw [e] at hr
   rw [hr] at h2
   exact absurd h2 (by decide)
  ·rcases Int.lt_or_le 7 r.kind with h'|h'
   ·exfalso
    have e:named r=zero:=by
     unfold named
     rw [if_neg (by omega),if_neg (by omega),if_neg (by omega),if_neg (by omega),if_neg (by omega),if_neg (by omega)]
    rw [e] at hr
    rw [hr] at h2
    exact absurd h2 (by decide)
   ·exact ⟨h,h'⟩
 have e:decide (May r)=decide (fits r):=by
  rw [Bool.eq_iff_iff,decide_eq_true_iff,decide_eq_true_iff]
  exact ⟨fun h=>h.2.2.2.2.2.2,fun h=>⟨hk.1,hk.2,h0,h1,h2,hr,h⟩⟩
 rw [e]
 exact may_pass r hr h0 h1 h2 hk w
end Go.Proofs.YtbhoknnjilidnaaGreatDoor.Rec
end
section
namespace Go.Proofs.YtbhoknnjilidnaaGreatDoor.Rec
open Go.Proofs.YtbhoknnjilidnaaGreatDoor.Mem Go.Proofs.YtbhoknnjilidnaaGreatDoor.Pack
def sgn (n:Nat):Int:=RowKit.wrap64 (n:Int)
structure Pos where
 zs:List Int
 short:Bool
def Pos.num (p:Pos) (k:Nat):Nat:=Pack.num (got p.zs k)
def Pos.skip (p:Pos) (k:Nat):Pos:=⟨left p.zs k,shortBy p.zs k p.short⟩
def Pos.txt (p:Pos):ByteArray:=strOfNums (textGot p.zs)
def Pos.past (p:Pos):Pos:=⟨textLeft p.zs,textShort p.zs p.short⟩
def first (p:Pos):Rcd :=
 let k:=p.num 1
 let p1:=p.skip 1
 let b:=p1.num 1
 let p2:=p1.skip 1
 let g:=p2.num 4
 let q:=p2.skip 4
 if k=1 then ⟨k,b,g,sgn (q.num 8),sgn ((q.skip 8).num 8),sgn (((q.skip 8).skip 8).num 8),(((q.skip 8).skip 8).skip 8).num 8,((((q.skip 8).skip 8).skip 8).skip 8).num 4,0,0,nothing,nothing,0,0⟩
 else if k=3 then ⟨k,b,g,0,0,0,0,0,0,0,((q.skip 8).skip 8).txt,(((q.skip 8).skip 8).past).txt,q.num 8,(q.skip 8).num 8⟩
 else if k=4 then ⟨k,b,g,0,0,0,0,0,0,0,(q.skip 8).txt,nothing,q.num 8,0⟩
 else if k=5 then ⟨k,b,g,0,0,0,0,q.num 4,(q.skip 4).num 1,((q.skip 4).skip 1).num 8,nothing,nothing,0,0⟩
 else if k=6 then ⟨k,b,g,0,0,0,0,q.num 4,0,0,nothing,nothing,0,0⟩
 else ⟨k,b,g,0,0,0,0,0,0,0,nothing,nothing,0,0⟩
def behind (p:Pos):Pos :=
 let k:=p.num 1
 let q:=((p.skip 1).skip 1).skip 4
 if k=1 then ((((q.skip 8).skip 8).skip 8).skip 8).skip 4
 else if k=3 then (((q.skip 8).skip 8).past).past
 else if k=4 then (q.skip 8).past
 else if k=5 then ((q.skip 4).skip 1).skip 8
 else if k=6 then q.skip 4
 else q
theorem skip_le (p:Pos) (k:Nat):(p.skip k).zs.length≤p.zs.length:=left_length_le _ _
theorem past_le (p:Pos):p.past.zs.length≤p.zs.length:=Nat.le_trans (left_length_le _ _) (left_length_le _ _)
theorem skip_bytes {p:Pos} (h:Bytes p.zs) (k:Nat):Bytes (p.skip k).zs:=left_bytes h k
theorem past_bytes {p:Pos} (h:Bytes p.zs):Bytes p.past.zs:=left_bytes (left_bytes h 2) _
theorem behind_lt (p:Pos) (h:0 < p.zs.length):(behind p).zs.length < p.zs.length:=by
 have h1:(p.skip 1).zs.length < p.zs.length:=by
  show (left p.zs 1).length < _
  unfold left
  rw [if_pos (by omega)]
  simp;omega
 have hq:(((p.skip 1).skip 1).skip 4).zs.length≤(p.skip 1).zs.length:=Nat.le_trans (skip_le _ _) (skip_le _ _)
 have key:(behind p).zs.length≤(((p.skip 1).skip 1).skip 4).zs.length:=by
  unfold behind
  simp only
  split
  ·exact Nat.le_trans (skip_le _ _) (Nat.le_trans (skip_le _ _) (Nat.le_trans (skip_le _ _) (Nat.le_trans (skip_le _ _) (skip_le _ _))))
  ·split
   ·exact Nat.le_trans (past_le _) (Nat.le_trans (past_le _) (Nat.le_trans (skip_le _ _) (skip_le _ _)))
   ·split
    ·exact Nat.le_trans (past_le _) (skip_le _ _)
    ·split
     ·exact Nat.le_trans (skip_le _ _) (Nat.le_trans (skip_le _ _) (skip_le _ _))
     ·split
      ·exact skip_le _ _
      ·exact Nat.le_refl _
 omega
def good (p:Pos):Bool:=decide (May (first p)) && !(behind p).short
def recs (zs:List Int):Option (List Rcd) :=
 if h:zs.length=0 then some []
 else if good ⟨zs,false⟩ then (recs (behind ⟨zs,false⟩).zs).map (first ⟨zs,false⟩ :: ·) else none
termination_by zs.length
decreasing_by exact behind_lt ⟨zs,false⟩ (by simp only;omega)
theorem recs_nil:recs []=some []:=by
 rw [recs];rfl
theorem recs_good {zs:List Int} (h0:0 < zs.length) (h:good ⟨zs,false⟩=true):recs zs=(recs (behind ⟨zs,false⟩).zs).map (first ⟨zs,false⟩ :: ·):=by
 rw [recs,dif_neg (by omega),if_pos h]
theorem recs_bad {zs:List Int} (h0:0 < zs.length) (h:good ⟨zs,false⟩=false):recs zs=none:=by
 rw [recs,dif_neg (by omega),if_neg (by rw [h];exact Bool.false_ne_true)]
def recsOf (zs:List Int):Option (List Rcd):=if zs.length=0 then none else recs zs
end Go.Proofs.YtbhoknnjilidnaaGreatDoor.Rec
end
section
namespace Go.Proofs.YtbhoknnjilidnaaGreatDoor.Rec
open Go.Proofs.YtbhoknnjilidnaaGreatDoor.Mem Go.Proofs.YtbhoknnjilidnaaGreatDoor.Pack
open Go.ChangeShapes Go.WideShapes Go.ChangeAt Go.RowKit
def Keeps (RD:World→Pos→Prop) (lo:Nat):Prop:=∀ w w' Q,RD w Q→But (fun k=>lo≤k) w w'→RD w' Q
structure Rdg (RD:World→Pos→Prop) (S:Nat→Prop) (t:TypeId) (R B:Nat) (zs:Array Value) (w0 w:World) (P:Pos) (cs:Array Value):Prop where
 rd:RD w P
 res:Blk w R t zs
 box:Blk w B t cs
 but:But S w0 w
 lowR:w0.heap.size≤R
 lowB:w0.heap.size≤B
 ne:R≠B
section
variable {RD:World→Pos→Prop} {S:Nat→Prop} {t:TypeId} {R B:Nat} {zs cs cs':Array Value} {w0 w w':World} {P P':Pos}
theorem Rdg.read (h:Rdg RD S t R B zs w0 w P cs) (hS:∀ k,S k→k < w0.heap.size) (hr:RD w' P') (hb:But S w w'):Rdg RD S t R B zs w0 w' P' cs :=
 ⟨hr,h.res.but hb (fun e=>by have:=hS _ e;have:=h.lowR;omega),h.box.but hb (fun e=>by have:=hS _ e;have:=h.lowB;omega),h.but.trans' hb,h.lowR,h.lowB,h.ne⟩
theorem Rdg.set (h:Rdg RD S t R B zs w0 w P cs) (fr:Keeps RD w0.heap.size) (i:Nat) (u:Value) (hcs:cs.setIfInBounds i u=cs'):Rdg RD S t R B zs w0 (w.setCell ⟨B,i,none⟩ u) P cs':=by
 have k:But (fun k=>k=B) w (w.setCell ⟨B,i,none⟩ u):=(But.refl (fun k=>k=B) w).setCell (p:=⟨B,i,none⟩) rfl u
 have hB:=h.lowB
 refine ⟨fr _ _ _ h.rd (k.mono (fun j _ e=>by omega)),h.res.but k h.ne,hcs ▸ h.box.set_ i u,h.but.trans k (fun j hj e=>by omega),h.lowR,h.lowB,h.ne⟩
theorem Rdg.cell (h:Rdg RD S t R B zs w0 w P cs) (i:Nat) {u:Value} (hu:cs[i]?=some u):w.cell? ⟨B,i,none⟩=some u:=(h.box.cell i).trans hu
theorem Rdg.frozen (h:Rdg RD S t R B zs w0 w P cs) (i:Nat):w.frozen? ⟨B,i,none⟩=false:=h.box.frozen i
theorem Rdg.start (fr:Keeps RD w0.heap.size) (h:RD w0 P) (cs:Array Value):Rdg RD S t w0.heap.size (w0.heap.size+1) cs w0 ((w0.alloc (.cells cs t)).alloc (.cells cs t)) P cs:=by
 have k:But (fun _=>False) w0 ((w0.alloc (.cells cs t)).alloc (.cells cs t)):=((But.refl _ w0).alloc _).alloc _
 obtain ⟨h1,h2⟩:=Blk.two w0 cs cs t t
 exact ⟨fr _ _ _ h (k.mono (fun _ _ e=>e.elim)),h1,h2,k.mono (fun _ _ e=>e.elim),Nat.le_refl _,by omega,by omega⟩
theorem Rdg.last (h:Rdg RD S t R B zs w0 w P cs) (fr:Keeps RD w0.heap.size) (cs':Array Value):RD (w.setRow R cs') P∧But S w0 (w.setRow R cs'):=by
 have k:But (fun k=>k=R) w (w.setRow R cs'):=but_setRow (fun k=>k=R) (But.refl _ w) (.inl rfl) cs'
 have hR:=h.lowR
 exact ⟨fr _ _ _ h.rd (k.mono (fun j _ e=>by omega)),but_setRow S h.but (.inr h.lowR) cs'⟩
end
theorem pos_num_lt {P:Pos} (h:Bytes P.zs) (k m:Nat) (hk:256 ^ k=m):P.num k < m:=by
 have h1:=num_lt (got_bytes h k)
 have h2:256 ^ (got P.zs k).length≤256 ^ k:=pow256_le (got_length_le P.zs k)
 rw [← hk]
 exact Nat.lt_of_lt_of_le h1 h2
theorem num1_lt {P:Pos} (h:Bytes P.zs):P.num 1 < 256:=pos_num_lt h 1 _ (by decide)
theorem num4_lt {P:Pos} (h:Bytes P.zs):P.num 4 < 4294967296:=pos_num_lt h 4 _ (by decide)
theorem num8_lt {P:Pos} (h:Bytes P.zs):P.num 8 < 18446744073709551616:=pos_num_lt h 8 _ (by decide)
def RdP (p D:Nat) (w:World) (P:Pos):Prop:=Rd w p D P.zs P.short
theorem rdP_keeps {p D lo:Nat} (hp:p < lo) (hD:D < lo):Keeps (RdP p D) lo:=fun w w' Q h hb=>Rd.but (S:=fun k=>lo≤k) h hb (by omega) (by omega)
theorem rdP_number (p D:Nat) (P:Pos) (k:Nat) (h1:1≤k) (h8:k≤8) (w:World) (h:RdP p D w P) :
  Calls Tryz.prog 76 #[.pointer (some ⟨p,0,none⟩),.int .i64 (k:Int)] w fun e w'=>e = .returned (.int .u64 ((P.num k:Nat):Int))∧RdP p D w' (P.skip k)∧But (fun b=>b=p) w w':=number_any p P.zs P.short k h1 h8 w h
theorem rdP_text (p D:Nat) (P:Pos) (w:World) (h:RdP p D w P) :
  Calls Tryz.prog 75 #[.pointer (some ⟨p,0,none⟩)] w fun e w'=>e = .returned (.string P.txt)∧RdP p D w' P.past∧But (fun b=>b=p) w w':=text_any p P.zs P.short w h
end Go.Proofs.YtbhoknnjilidnaaGreatDoor.Rec
end
