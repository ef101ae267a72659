/- Records: what one is, its bytes, whether it may be, and what bytes are read as. Two records' values are one just if the records are. A record in a block of its own, beside a row that is appended to. The bytes of a record: the walks of record.put. The bytes of a record: the walks of record.put, a kind each. The bytes of a record: the walks of record.put, a kind each. -/
import Derived.Test.YtgjofinbdigmcaaGreatG11
import Derived.Test.YtgjofinbdigmcaaGreatProg
import Derived.WalkKit
import Derived.ProofKit
import Derived.Laws.StructEq
import Derived.Below
import Derived.Outline
import Derived.WalkSpells
import Derived.WalkLawsBesides
import Derived.LoopTactic
import Derived.Lib.Hide
import Derived.WalkMore
import Derived.Deep.QuietTactic
import Derived.BigQuiet
import Derived.Laws.Rows
set_option linter.unusedSimpArgs false
set_option linter.unusedVariables false
set_option maxHeartbeats 2000000
set_option maxRecDepth 100000
section
namespace Go.Proofs.YtgjofinbdigmcaaGreat.Rec
open Go.Proofs.YtgjofinbdigmcaaGreat.Mem Go.Proofs.YtgjofinbdigmcaaGreat.Pack
structure Rcd where
 kind:Int
 bucket:Int
 gen:Nat
 keys:Int
 bytes:Int
 budget:Int
 seq:Nat
 serial:Nat
 rights:Int
 secret:Nat
 key:ByteArray
 val:ByteArray
 version:Nat
 expiry:Nat
deriving DecidableEq
def cells (r:Rcd):Array Value := #[.int .i64 r.kind,.int .i64 r.bucket,.int .u32 (r.gen:Int),.int .i64 r.keys,.int .i64 r.bytes,.int .i64 r.budget,.int .u64 (r.seq:Int),.int .u32 (r.serial:Int),.int .i64 r.rights,.int .u64 (r.secret:Int),.string r.key,.string r.val,.int .u64 (r.version:Int),.int .u64 (r.expiry:Int)]
def rv (r:Rcd):Value := .agg (cells r)
def nothing:ByteArray:=⟨#[]⟩
def zero:Rcd:=⟨0,0,0,0,0,0,0,0,0,0,nothing,nothing,0,0⟩
def base (r:Rcd):Rcd:=⟨r.kind,r.bucket,r.gen,0,0,0,0,0,0,0,nothing,nothing,0,0⟩
def named (r:Rcd):Rcd :=
 if r.kind=1 then ⟨r.kind,r.bucket,r.gen,r.keys,r.bytes,r.budget,r.seq,r.serial,0,0,nothing,nothing,0,0⟩
 else if r.kind=3 then ⟨r.kind,r.bucket,r.gen,0,0,0,0,0,0,0,r.key,r.val,r.version,r.expiry⟩
 else if r.kind=4 then ⟨r.kind,r.bucket,r.gen,0,0,0,0,0,0,0,r.key,nothing,r.version,0⟩
 else if r.kind=5 then ⟨r.kind,r.bucket,r.gen,0,0,0,0,r.serial,r.rights,r.secret,nothing,nothing,0,0⟩
 else if r.kind=6 then ⟨r.kind,r.bucket,r.gen,0,0,0,0,r.serial,0,0,nothing,nothing,0,0⟩
 else if r.kind=2∨r.kind=7 then base r
 else zero
def inQ (n:Int):Prop:=0≤n∧n≤1099511627776
def keyMay (s:ByteArray):Prop:=1≤s.size∧s.size≤64
instance (n:Int):Decidable (inQ n):=by unfold inQ;infer_instance
instance (s:ByteArray):Decidable (keyMay s):=by unfold keyMay;infer_instance
def fits (r:Rcd):Prop :=
 if r.kind=1 then inQ r.keys∧inQ r.bytes∧inQ r.budget
 else if r.kind=3 then keyMay r.key∧r.val.size≤1000
 else if r.kind=4 then keyMay r.key
 else if r.kind=5 then 1≤r.rights∧r.rights≤7
 else True
instance (r:Rcd):Decidable (fits r):=by unfold fits;infer_instance
def May (r:Rcd):Prop:=1≤r.kind∧r.kind≤7∧0≤r.bucket∧r.bucket < 64∧1≤r.gen∧r=named r∧fits r
instance (r:Rcd):Decidable (May r):=by unfold May;infer_instance
structure Is (r:Rcd):Prop where
 kind : -9223372036854775808≤r.kind∧r.kind≤9223372036854775807
 bucket : -9223372036854775808≤r.bucket∧r.bucket≤9223372036854775807
 gen:r.gen < 4294967296
 seq:r.seq < 18446744073709551616
 serial:r.serial < 4294967296
 rights : -9223372036854775808≤r.rights∧r.rights≤9223372036854775807
 secret:r.secret < 18446744073709551616
 key:r.key.size≤9223372036854775807
 val:r.val.size≤9223372036854775807
 version:r.version < 18446744073709551616
 expiry:r.expiry < 18446744073709551616
def text (s:ByteArray):List Int:=put s.size 2++strBytes s
def more (r:Rcd):List Int :=
 if r.kind=1 then put r.keys.toNat 8++(put r.bytes.toNat 8++(put r.budget.toNat 8++(put r.seq 8++put r.serial 4)))
 else if r.kind=3 then put r.version 8++(put r.expiry 8++(text r.key++text r.val))
 else if r.kind=4 then put r.version 8++text r.key
 else if r.kind=5 then put r.serial 4++(put r.rights.toNat 1++put r.secret 8)
 else if r.kind=6 then put r.serial 4
 else []
def bytesOf (r:Rcd):List Int:=put r.kind.toNat 1++(put r.bucket.toNat 1++(put r.gen 4++more r))
def body (l:List Rcd):List Int:=l.flatMap bytesOf
end Go.Proofs.YtgjofinbdigmcaaGreat.Rec
end
section
namespace Go.Proofs.YtgjofinbdigmcaaGreat.Rec
open Go.Proofs.YtgjofinbdigmcaaGreat.Mem Go.Proofs.YtgjofinbdigmcaaGreat.Pack
section
variable {P:Program} {d:Nat} {xs ys:Array Value} {f:Field} {fs:List Field} {w:World}
theorem eq_end:(Op.eqFields d xs ys []).run P w = .ok true w:=by simp [Op.eqFields]
theorem eq_field {u v : Value} {c r : Bool} (hn : f.name ≠ "_") (h1 : (part f.type xs f.offset).run P w = .ok u w) (h2 : (part f.type ys f.offset).run P w = .ok v w) (h3 : (Op.equalIn d f.type u v).run P w = .ok c w) (h4 : (Op.eqFields d xs ys fs).run P w = .ok r w) :
  (Op.eqFields d xs ys (f :: fs)).run P w = .ok (c && r) w:=by
 rw [Op.eqFields,if_pos hn]
 simp only [Sem.run_bind,h1,h2,h3,Result.andThen_ok,Sem.run_ite]
 cases c
 ·simp
 ·simpa using h4
theorem part_one {t:TypeId} {cs:Array Value} {off:Nat} {u:Value} (ha:(isAgg t).run P w = .ok false w) (h:cs[off]?=some u):(part t cs off).run P w = .ok u w:=by
 unfold part
 simp [ha,h]
theorem part_agg {t:TypeId} {cs:Array Value} {off n:Nat} (ha:(isAgg t).run P w = .ok true w) (hs:(sizeOf t).run P w = .ok n w):(part t cs off).run P w = .ok (.agg (cs.extract off (off+n))) w:=by
 unfold part
 simp [ha,hs]
end
theorem str_beq (a b:ByteArray):(a.toList == b.toList)=decide (a=b):=by
 rw [ByteArray.toList_eq,ByteArray.toList_eq,Bool.eq_iff_iff]
 obtain ⟨⟨x⟩⟩:=a
 obtain ⟨⟨y⟩⟩:=b
 simp
theorem agg_int (w:World):(isAgg 3).run Tryz.prog w = .ok false w∧(isAgg 2).run Tryz.prog w = .ok false w∧(isAgg 22).run Tryz.prog w = .ok false w∧(isAgg 26).run Tryz.prog w = .ok false w∧(isAgg 9).run Tryz.prog w = .ok false w:=by
 refine ⟨?_,?_,?_,?_,?_⟩
 ·simp [isAgg,run_underlying Tryz.underlying3]
 ·simp [isAgg,run_underlying Tryz.underlying2]
 ·simp [isAgg,run_underlying Tryz.underlying22]
 ·simp [isAgg,run_underlying Tryz.underlying26]
 ·simp [isAgg,run_underlying Tryz.underlying9]
theorem agg_quota (w:World):(isAgg 24).run Tryz.prog w = .ok true w:=by
 simp [isAgg,run_underlying Tryz.underlying24]
theorem size_quota (w:World):(sizeOf 24).run Tryz.prog w = .ok 3 w:=by
 have h:(Tryz.prog.info? 24).map (·.size)=some 3:=by kernel_rfl
 obtain ⟨i,hi,hc⟩:=Option.map_eq_some_iff.1 h
 simp [sizeOf,typeInfo,hi,hc]
theorem quota_deep (d:Nat) (a b c x y z:Int) (w:World):(Op.equalIn (d+1+1) 24 (.agg #[.int .i64 a,.int .i64 b,.int .i64 c]) (.agg #[.int .i64 x,.int .i64 y,.int .i64 z])).run Tryz.prog w = .ok (a == x && (b == y && (c == z && true))) w:=by
 have h2:Tryz.prog.stoodInHeld 24=false:=by kernel_rfl
 obtain ⟨_,ki,_,_,_⟩:=agg_int w
 rw [run_equalIn_struct _ _ _ _ _ (by kernel_rfl) h2]
 obtain ⟨fs,hfs⟩:∃ fs,(Tryz.prog.fieldsOf 24).toList=fs:=⟨_,rfl⟩
 rw [hfs]
 simp [Program.fieldsOf,Tryz.underlying24] at hfs
 subst hfs
 refine eq_field (by decide) (part_one ki rfl) (part_one ki rfl) (run_equalIn_int _ _ _ _ _ _ _ Tryz.underlying2) ?_
 refine eq_field (by decide) (part_one ki rfl) (part_one ki rfl) (run_equalIn_int _ _ _ _ _ _ _ Tryz.underlying2) ?_
 exact eq_field (by decide) (part_one ki rfl) (part_one ki rfl) (run_equalIn_int _ _ _ _ _ _ _ Tryz.underlying2) eq_end
theorem rec_equal (a b:Rcd) (w:World):(Op.equal 35 (rv a) (rv b)).run Tryz.prog w = .ok (decide (a=b)) w:=by
 have h1:Tryz.prog.stoodInHeld 35=false:=by kernel_rfl
 obtain ⟨k0,k1,k2,k3,k4⟩:=agg_int w
 unfold Op.equal rv
 rw [show Op.maxDepth=9997+1+1+1 from rfl,run_equalIn_struct _ _ _ _ _ (by kernel_rfl) h1]
 obtain ⟨fs,hfs⟩:∃ fs,(Tryz.prog.fieldsOf 35).toList=fs:=⟨_,rfl⟩
 rw [hfs]
 simp [Program.fieldsOf,Tryz.underlying35] at hfs
 subst hfs
 have key:decide (a=b)=(a.kind == b.kind && (a.bucket == b.bucket && (((a.gen:Int) == (b.gen:Int)) && ((a.keys == b.keys && (a.bytes == b.bytes && (a.budget == b.budget && true))) && (((a.seq:Int) == (b.seq:Int)) && (((a.serial:Int) == (b.serial:Int)) && (a.rights == b.rights && (((a.secret:Int) == (b.secret:Int)) && (a.key.toList == b.key.toList && (a.val.toList == b.val.toList && (((a.version:Int) == (b.version:Int)) && (((a.expiry:Int) == (b.expiry:Int)) && true)))))))))))):=by
  obtain ⟨⟩:=a
  obtain ⟨⟩:=b
  rw [str_beq,str_beq,Bool.eq_iff_iff]
  simp [Int.natCast_inj,and_assoc]
 rw [key]
 refine eq_field (by decide) (part_one k0 rfl) (part_one k0 rfl) (run_equalIn_int _ _ _ _ _ _ _ Tryz.underlying3) ?_
 refine eq_field (by decide) (part_one k0 rfl) (part_one k0 rfl) (run_equalIn_int _ _ _ _ _ _ _ Tryz.underlying3) ?_
 refine eq_field (by decide) (part_one k2 rfl) (part_one k2 rfl) (run_equalIn_int _ _ _ _ _ _ _ Tryz.underlying22) ?_
 refine eq_field (by decide) (part_agg (agg_quota w) (size_quota w)) (part_agg (agg_quota w) (size_quota w)) (quota_deep 9997 _ _ _ _ _ _ w) ?_
 refine eq_field (by decide) (part_one k3 rfl) (part_one k3 rfl) (run_equalIn_int _ _ _ _ _ _ _ Tryz.underlying26) ?_
 refine eq_field (by decide) (part_one k2 rfl) (part_one k2 rfl) (run_equalIn_int _ _ _ _ _ _ _ Tryz.underlying22) ?_
 refine eq_field (by decide) (part_one k0 rfl) (part_one k0 rfl) (run_equalIn_int _ _ _ _ _ _ _ Tryz.underlying3) ?_
 refine eq_field (by decide) (part_one k3 rfl) (part_one k3 rfl) (run_equalIn_int _ _ _ _ _ _ _ Tryz.underlying26) ?_
 refine eq_field (by decide) (part_one k4 rfl) (part_one k4 rfl) (run_equalIn_string _ _ _ _ _ Tryz.underlying9) ?_
 refine eq_field (by decide) (part_one k4 rfl) (part_one k4 rfl) (run_equalIn_string _ _ _ _ _ Tryz.underlying9) ?_
 refine eq_field (by decide) (part_one k3 rfl) (part_one k3 rfl) (run_equalIn_int _ _ _ _ _ _ _ Tryz.underlying26) ?_
 exact eq_field (by decide) (part_one k3 rfl) (part_one k3 rfl) (run_equalIn_int _ _ _ _ _ _ _ Tryz.underlying26) eq_end
theorem rec_eql (a b:Rcd) (w:World):(binOp .eql 35 (rv a) (rv b)).run Tryz.prog w = .ok (.bool (decide (a=b))) w:=by
 have h:=rec_equal a b w
 unfold rv at h ⊢
 simp [binOp,h]
theorem rec_neq (a b:Rcd) (w:World):(binOp .neq 35 (rv a) (rv b)).run Tryz.prog w = .ok (.bool (!decide (a=b))) w:=by
 have h:=rec_equal a b w
 unfold rv at h ⊢
 simp [binOp,h]
end Go.Proofs.YtgjofinbdigmcaaGreat.Rec
end
section
namespace Go.Proofs.YtgjofinbdigmcaaGreat.Rec
open Go.Proofs.YtgjofinbdigmcaaGreat.Mem Go.Proofs.YtgjofinbdigmcaaGreat.Pack
open Go.ChangeShapes Go.WideShapes Go.ChangeAt Go.RowKit
theorem rec_size:(Tryz.prog.info? 35).map (·.size)=some 14:=by kernel_rfl
theorem heap3 (w:World) (A B C:Obj):(((w.alloc A).alloc B).alloc C).heap[w.heap.size+1]?=some B:=by
 show (((w.heap.push A).push B).push C)[w.heap.size+1]?=some B
 rw [Array.getElem?_push,if_neg (by simp),Array.getElem?_push,if_pos (by simp)]
theorem below3 (w:World) (A B C:Obj):Below w.heap.size w (((w.alloc A).alloc B).alloc C) :=
 (((Below.refl _ w).alloc (Nat.le_refl _) A).alloc (by simp) B).alloc (by simp;omega) C
theorem heap_new (w:World) (A:Obj):(w.alloc A).heap[w.heap.size]?=some A:=by
 show (w.heap.push A)[w.heap.size]?=some A
 simp
def Box (w:World) (B:Nat) (cs:Array Value):Prop:=w.heap[B]?=some (.cells cs 35 (0,0))
theorem Box.lt {w:World} {B:Nat} {cs:Array Value} (h:Box w B cs):B < w.heap.size:=by
 rcases Nat.lt_or_ge B w.heap.size with h1|h1
 ·exact h1
 ·rw [Box,Array.getElem?_eq_none h1] at h;cases h
theorem Box.cell {w:World} {B:Nat} {cs:Array Value} (h:Box w B cs) (i:Nat) {u:Value} (hu:cs[i]?=some u):w.cell? ⟨B,i,none⟩=some u:=by
 unfold Box at h
 simp [World.cell?,h,hu]
theorem Box.but {S:Nat→Prop} {w w':World} {B:Nat} {cs:Array Value} (h:Box w B cs) (hb:But S w w') (hs:¬ S B):Box w' B cs:=(hb.block B h.lt hs).trans h
theorem own_ne_box {w:World} {base:Nat} {v:Value} {n B:Nat} {xs:List Value} {cs:Array Value} (h:w.ownsRow base 5 1 v n xs) (hB:Box w B cs):v.ownBlock≠some B:=by
 intro e
 rcases h.2 with ⟨hv,_⟩|⟨g,cap,cur,hv,hg,hh,r⟩
 ·rw [hv] at e;cases e
 ·rw [hv] at e
  have e2:g=B:=Option.some.inj e
  subst e2
  unfold Box at hB
  rw [hh] at hB
  simp at hB
structure Going (w0:World) (base B:Nat) (cs:Array Value) (w:World) (v:Value) (len:Nat) (xs:List Int):Prop where
 own:w.ownsRow base 5 1 v len (cellsOf xs)
 box:Box w B cs
 below:Below base w0 w
 size:base≤w.heap.size
theorem Going.step {w0:World} {base B:Nat} {cs:Array Value} {w w':World} {v v':Value} {len len':Nat} {xs ys:List Int} (h:Going w0 base B cs w v len xs) (ho:w'.ownsRow base 5 1 v' len' (cellsOf ys)) (hg:w.grownBy w' v.ownBlock):Going w0 base B cs w' v' len' ys :=
 ⟨ho,h.box.but (But.of_grown hg) (fun e=>own_ne_box h.own h.box e.symm),h.below.grown hg h.size (fun k hk=>(h.own.lt k hk).1),Nat.le_trans h.size hg.size⟩
theorem Going.start {base:Nat} {w:World} {v:Value} {len:Nat} {xs:List Int} (cs:Array Value) (h:w.ownsRow base 5 1 v len (cellsOf xs)) (hb:base≤w.heap.size):Going w base w.heap.size cs (w.alloc (.cells cs 35)) v len xs :=
 ⟨ownsRow_alloc h _,heap_new _ _,(Below.refl _ _).alloc hb _,by simp;omega⟩
theorem sees_two (w:World) (u1 u2:Value) (e:TypeId) (fr:Nat × Nat) (g:Nat) (hg:g=w.heap.size):Sees (w.alloc (.cells #[u1,u2] e fr)) 1 (.slice (some ⟨g,0,none⟩) 2 2) 2 [u1,u2]:=by
 subst hg
 refine .inr ⟨_,_,rfl,rfl,fun j x hx=>?_⟩
 refine ⟨by simp,?_⟩
 rw [add_none,Nat.zero_add,World.cell?_alloc_mark]
 simpa using hx
theorem Going.stepped {w0:World} {base B:Nat} {cs:Array Value} {w w':World} {v v':Value} {len len':Nat} {xs ys:List Int} {o:Obj} (h:Going w0 base B cs w v len xs) (ho:w'.ownsRow base 5 1 v' len' (cellsOf ys)) (hon:Onto (w.alloc o) w' v v'):Going w0 base B cs w' v' len' ys :=
 h.step ho (hon.of_alloc (fun k hk=>(h.own.lt k hk).2)).grown
theorem put_one (n:Nat) (h:n < 256):put n 1=[(n:Int)]:=by
 show [((n % 256:Nat):Int)]=_
 rw [Nat.mod_eq_of_lt h]
end Go.Proofs.YtgjofinbdigmcaaGreat.Rec
end
section
namespace Go.Proofs.YtgjofinbdigmcaaGreat.Rec
open Go.Proofs.YtgjofinbdigmcaaGreat.Mem Go.Proofs.YtgjofinbdigmcaaGreat.Pack
open Go.ChangeShapes Go.WideShapes Go.ChangeAt Go.RowKit
theorem putQuota_any (q1 q2 q3:Nat) (h1:q1 < 18446744073709551616) (h2:q2 < 18446744073709551616) (h3:q3 < 18446744073709551616) (v:Value) (len:Nat) (xs:List Int) (base:Nat) (w:World)
  (hown:w.ownsRow base 5 1 v len (cellsOf xs)) (hb:base≤w.heap.size) (hl:len≤1000000000) :
  Calls Tryz.prog 82 #[v,.agg #[.int .i64 (q1:Int),.int .i64 (q2:Int),.int .i64 (q3:Int)]] w fun e w'=>∃ v',e = .returned v'∧w'.ownsRow base 5 1 v' (len+8+8+8) (cellsOf (xs++put q1 8++put q2 8++put q3 8))∧Onto w w' v v':=by
 have i0:∀ w:World,(Instr.index 134 (.agg #[.int .i64 (q1:Int),.int .i64 (q2:Int),.int .i64 (q3:Int)]) (.int .i64 0)).run Tryz.prog w = .ok (.int .i64 (q1:Int)) w:=fun _=>by kernel_rfl
 have i1:∀ w:World,(Instr.index 134 (.agg #[.int .i64 (q1:Int),.int .i64 (q2:Int),.int .i64 (q3:Int)]) (.int .i64 1)).run Tryz.prog w = .ok (.int .i64 (q2:Int)) w:=fun _=>by kernel_rfl
 have i2:∀ w:World,(Instr.index 134 (.agg #[.int .i64 (q1:Int),.int .i64 (q2:Int),.int .i64 (q3:Int)]) (.int .i64 2)).run Tryz.prog w = .ok (.int .i64 (q3:Int)) w:=fun _=>by kernel_rfl
 go_enter Tryz.func82,Tryz.ntmps82
 go_wp2
 refine wp_loop_rounds 4 ?_
 rw [rounds_succ]
 go_wp2_with fail
 refine (put_any q1 h1 8 (by omega) (by omega) v len xs base _ (ownsRow_alloc hown _) (by first|omega|(simp;omega)) (by omega)).mono ?_
 rintro e w1 ⟨v1,rfl,ho1,hon1⟩
 have hs1:=hon1.grown.size
 try simp only [World.size_alloc] at hs1
 go_wp2_with fail
 rw [rounds_succ]
 go_wp2_with fail
 refine (put_any q2 h2 8 (by omega) (by omega) v1 (len+8) (xs++put q1 8) base _ ho1 (by first|omega|(simp;omega)) (by omega)).mono ?_
 rintro e w2 ⟨v2,rfl,ho2,hon2⟩
 have hs2:=hon2.grown.size
 try simp only [World.size_alloc] at hs2
 go_wp2_with fail
 rw [rounds_succ]
 go_wp2_with fail
 refine (put_any q3 h3 8 (by omega) (by omega) v2 (len+8+8) (xs++put q1 8++put q2 8) base _ ho2 (by first|omega|(simp;omega)) (by omega)).mono ?_
 rintro e w3 ⟨v3,rfl,ho3,hon3⟩
 have hs3:=hon3.grown.size
 try simp only [World.size_alloc] at hs3
 go_wp2_with fail
 rw [rounds_succ]
 go_wp2_with fail
 go_ret
 exact ⟨_,rfl,ho3,((hon1.of_alloc (fun k hk=>(hown.lt k hk).2)).trans hon2).trans hon3⟩
def Puts (base:Nat) (w:World) (xs:List Int) (len:Nat) (r:Rcd) (e:Ending) (w':World):Prop :=
 ∃ v',e = .returned v'∧w'.ownsRow base 5 1 v' (len+(bytesOf r).length) (cellsOf (xs++bytesOf r))∧Below base w w'
theorem row_eq {w:World} {base n n':Nat} {e:TypeId} {v:Value} {xs xs':List Int} (h:w.ownsRow base e 1 v n (cellsOf xs)) (hn:n=n') (hx:xs=xs'):w.ownsRow base e 1 v n' (cellsOf xs'):=by
 subst hn hx;exact h
end Go.Proofs.YtgjofinbdigmcaaGreat.Rec
end
section
namespace Go.Proofs.YtgjofinbdigmcaaGreat.Rec
open Go.Proofs.YtgjofinbdigmcaaGreat.Mem Go.Proofs.YtgjofinbdigmcaaGreat.Pack
open Go.ChangeShapes Go.WideShapes Go.ChangeAt Go.RowKit
theorem rput_1 (r:Rcd) (hk:r.kind=1) (hm:May r) (hi:Is r) (v:Value) (len:Nat) (xs:List Int) (base:Nat) (w:World)
  (hown:w.ownsRow base 5 1 v len (cellsOf xs)) (hb:base≤w.heap.size) (hl:len≤1000000):Calls Tryz.prog 64 #[v,rv r] w fun e w'=>Puts base w xs len r e w':=by
 obtain ⟨k,b,g,q1,q2,q3,s1,s2,ri,se,ke,va,ve,ex⟩:=r
 simp only at hk
 subst hk
 have hb0:0≤b:=hm.2.2.1
 have hb1:b < 64:=hm.2.2.2.1
 have hgn:g < 4294967296:=hi.gen
 have hs1:s1 < 18446744073709551616:=hi.seq
 have hs2:s2 < 4294967296:=hi.serial
 have hse:se < 18446744073709551616:=hi.secret
 have hve:ve < 18446744073709551616:=hi.version
 have hex:ex < 18446744073709551616:=hi.expiry
 have hf:(0≤q1∧q1≤1099511627776)∧(0≤q2∧q2≤1099511627776)∧(0≤q3∧q3≤1099511627776):=hm.2.2.2.2.2.2
 obtain ⟨⟨hq1,hq1'⟩,⟨hq2,hq2'⟩,⟨hq3,hq3'⟩⟩:=hf
 clear hm hi
 obtain ⟨b,rfl⟩:∃ x:Nat,b=(x:Int):=⟨b.toNat,by omega⟩
 obtain ⟨q1,rfl⟩:∃ x:Nat,q1=(x:Int):=⟨q1.toNat,by omega⟩
 obtain ⟨q2,rfl⟩:∃ x:Nat,q2=(x:Int):=⟨q2.toNat,by omega⟩
 obtain ⟨q3,rfl⟩:∃ x:Nat,q3=(x:Int):=⟨q3.toNat,by omega⟩
 have hg0:=Going.start (cells ⟨1,b,g,q1,q2,q3,s1,s2,ri,se,ke,va,ve,ex⟩) hown hb
 have HOWN:=Lib.hid hown
 clear hown
 simp only [rv,cells] at hg0 ⊢
 have hlen:(bytesOf ⟨1,b,g,q1,q2,q3,s1,s2,ri,se,ke,va,ve,ex⟩).length=42:=by simp [bytesOf,more,text,put_length,strBytes_length];try omega
 have HLEN:=Lib.hid hlen
 clear hlen
 go_enter Tryz.func64,Tryz.ntmps64
 go_wp2_with fail
 refine (put_any 1 (by omega) 1 (by omega) (by omega) v _ xs base _ hg0.own hg0.size (by omega)).mono ?_
 rintro e w1 ⟨v1,rfl,ho,hon⟩
 have hg1:=hg0.step ho hon.grown
 clear ho hon hg0
 have c1:=hg1.box.cell 1 rfl
 go_wp2_with fail
 refine (put_any b (by omega) 1 (by omega) (by omega) v1 _ (xs++put 1 1) base _ hg1.own hg1.size (by omega)).mono ?_
 rintro e w2 ⟨v2,rfl,ho,hon⟩
 have hg2:=hg1.step ho hon.grown
 clear ho hon hg1
 have c2:=hg2.box.cell 2 rfl
 go_wp2_with fail
 refine (put_any g (by omega) 4 (by omega) (by omega) v2 _ ((xs++put 1 1)++put b 1) base _ hg2.own hg2.size (by omega)).mono ?_
 rintro e w3 ⟨v3,rfl,ho,hon⟩
 have hg3:=hg2.step ho hon.grown
 clear ho hon hg2
 have c0:=hg3.box.cell 0 rfl
 have c3:=hg3.box.cell 3 rfl
 have c4:=hg3.box.cell 4 rfl
 have c5:=hg3.box.cell 5 rfl
 go_wp2_with fail
 refine (putQuota_any q1 q2 q3 (by omega) (by omega) (by omega) v3 _ (((xs++put 1 1)++put b 1)++put g 4) base _ hg3.own hg3.size (by omega)).mono ?_
 rintro e w4 ⟨v4,rfl,ho,hon⟩
 have hg4:=hg3.step ho hon.grown
 clear ho hon hg3
 have c6:=hg4.box.cell 6 rfl
 go_wp2_with fail
 refine (put_any s1 (by omega) 8 (by omega) (by omega) v4 _ ((((xs++put 1 1)++put b 1)++put g 4)++put q1 8++put q2 8++put q3 8) base _ hg4.own hg4.size (by omega)).mono ?_
 rintro e w5 ⟨v5,rfl,ho,hon⟩
 have hg5:=hg4.step ho hon.grown
 clear ho hon hg4
 have c7:=hg5.box.cell 7 rfl
 go_wp2_with fail
 refine (put_any s2 (by omega) 4 (by omega) (by omega) v5 _ (((((xs++put 1 1)++put b 1)++put g 4)++put q1 8++put q2 8++put q3 8)++put s1 8) base _ hg5.own hg5.size (by omega)).mono ?_
 rintro e w6 ⟨v6,rfl,ho,hon⟩
 have hg6:=hg5.step ho hon.grown
 clear ho hon hg5
 go_wp2_with fail
 go_ret
 refine ⟨_,rfl,?_,hg6.below⟩
 rw [HLEN.out]
 refine row_eq hg6.own (by omega) ?_
 simp [bytesOf,more,text]
theorem rput_2 (r:Rcd) (hk:r.kind=2) (hm:May r) (hi:Is r) (v:Value) (len:Nat) (xs:List Int) (base:Nat) (w:World)
  (hown:w.ownsRow base 5 1 v len (cellsOf xs)) (hb:base≤w.heap.size) (hl:len≤1000000):Calls Tryz.prog 64 #[v,rv r] w fun e w'=>Puts base w xs len r e w':=by
 obtain ⟨k,b,g,q1,q2,q3,s1,s2,ri,se,ke,va,ve,ex⟩:=r
 simp only at hk
 subst hk
 have hb0:0≤b:=hm.2.2.1
 have hb1:b < 64:=hm.2.2.2.1
 have hgn:g < 4294967296:=hi.gen
 have hs1:s1 < 18446744073709551616:=hi.seq
 have hs2:s2 < 4294967296:=hi.serial
 have hse:se < 18446744073709551616:=hi.secret
 have hve:ve < 18446744073709551616:=hi.version
 have hex:ex < 18446744073709551616:=hi.expiry
 clear hm hi
 obtain ⟨b,rfl⟩:∃ x:Nat,b=(x:Int):=⟨b.toNat,by omega⟩
 have hg0:=Going.start (cells ⟨2,b,g,q1,q2,q3,s1,s2,ri,se,ke,va,ve,ex⟩) hown hb
 have HOWN:=Lib.hid hown
 clear hown
 simp only [rv,cells] at hg0 ⊢
 have hlen:(bytesOf ⟨2,b,g,q1,q2,q3,s1,s2,ri,se,ke,va,ve,ex⟩).length=6:=by simp [bytesOf,more,text,put_length,strBytes_length];try omega
 have HLEN:=Lib.hid hlen
 clear hlen
 go_enter Tryz.func64,Tryz.ntmps64
 go_wp2_with fail
 refine (put_any 2 (by omega) 1 (by omega) (by omega) v _ xs base _ hg0.own hg0.size (by omega)).mono ?_
 rintro e w1 ⟨v1,rfl,ho,hon⟩
 have hg1:=hg0.step ho hon.grown
 clear ho hon hg0
 have c1:=hg1.box.cell 1 rfl
 go_wp2_with fail
 refine (put_any b (by omega) 1 (by omega) (by omega) v1 _ (xs++put 2 1) base _ hg1.own hg1.size (by omega)).mono ?_
 rintro e w2 ⟨v2,rfl,ho,hon⟩
 have hg2:=hg1.step ho hon.grown
 clear ho hon hg1
 have c2:=hg2.box.cell 2 rfl
 go_wp2_with fail
 refine (put_any g (by omega) 4 (by omega) (by omega) v2 _ ((xs++put 2 1)++put b 1) base _ hg2.own hg2.size (by omega)).mono ?_
 rintro e w3 ⟨v3,rfl,ho,hon⟩
 have hg3:=hg2.step ho hon.grown
 clear ho hon hg2
 have c0:=hg3.box.cell 0 rfl
 go_wp2_with fail
 go_ret
 refine ⟨_,rfl,?_,hg3.below⟩
 rw [HLEN.out]
 refine row_eq hg3.own (by omega) ?_
 simp [bytesOf,more,text]
end Go.Proofs.YtgjofinbdigmcaaGreat.Rec
end
section
namespace Go.Proofs.YtgjofinbdigmcaaGreat.Rec
open Go.Proofs.YtgjofinbdigmcaaGreat.Mem Go.Proofs.YtgjofinbdigmcaaGreat.Pack
open Go.ChangeShapes Go.WideShapes Go.ChangeAt Go.RowKit
theorem rput_3 (r:Rcd) (hk:r.kind=3) (hm:May r) (hi:Is r) (v:Value) (len:Nat) (xs:List Int) (base:Nat) (w:World)
  (hown:w.ownsRow base 5 1 v len (cellsOf xs)) (hb:base≤w.heap.size) (hl:len≤1000000):Calls Tryz.prog 64 #[v,rv r] w fun e w'=>Puts base w xs len r e w':=by
 obtain ⟨k,b,g,q1,q2,q3,s1,s2,ri,se,ke,va,ve,ex⟩:=r
 simp only at hk
 subst hk
 have hb0:0≤b:=hm.2.2.1
 have hb1:b < 64:=hm.2.2.2.1
 have hgn:g < 4294967296:=hi.gen
 have hs1:s1 < 18446744073709551616:=hi.seq
 have hs2:s2 < 4294967296:=hi.serial
 have hse:se < 18446744073709551616:=hi.secret
 have hve:ve < 18446744073709551616:=hi.version
 have hex:ex < 18446744073709551616:=hi.expiry
 have hf:(1≤ke.size∧ke.size≤64)∧va.size≤1000:=hm.2.2.2.2.2.2
 obtain ⟨⟨hke,hke'⟩,hva⟩:=hf
 have hcut1:ke=cut ke:=by rw [cut,if_neg (by omega)]
 have hcut2:va=cut va:=by rw [cut,if_neg (by omega)]
 have HC1:=Lib.hid hcut1
 have HC2:=Lib.hid hcut2
 clear hcut1 hcut2
 clear hm hi
 obtain ⟨b,rfl⟩:∃ x:Nat,b=(x:Int):=⟨b.toNat,by omega⟩
 have hg0:=Going.start (cells ⟨3,b,g,q1,q2,q3,s1,s2,ri,se,ke,va,ve,ex⟩) hown hb
 have HOWN:=Lib.hid hown
 clear hown
 simp only [rv,cells] at hg0 ⊢
 have hlen:(bytesOf ⟨3,b,g,q1,q2,q3,s1,s2,ri,se,ke,va,ve,ex⟩).length=26+ke.size+va.size:=by simp [bytesOf,more,text,put_length,strBytes_length];try omega
 have HLEN:=Lib.hid hlen
 clear hlen
 go_enter Tryz.func64,Tryz.ntmps64
 go_wp2_with fail
 refine (put_any 3 (by omega) 1 (by omega) (by omega) v _ xs base _ hg0.own hg0.size (by omega)).mono ?_
 rintro e w1 ⟨v1,rfl,ho,hon⟩
 have hg1:=hg0.step ho hon.grown
 clear ho hon hg0
 have c1:=hg1.box.cell 1 rfl
 go_wp2_with fail
 refine (put_any b (by omega) 1 (by omega) (by omega) v1 _ (xs++put 3 1) base _ hg1.own hg1.size (by omega)).mono ?_
 rintro e w2 ⟨v2,rfl,ho,hon⟩
 have hg2:=hg1.step ho hon.grown
 clear ho hon hg1
 have c2:=hg2.box.cell 2 rfl
 go_wp2_with fail
 refine (put_any g (by omega) 4 (by omega) (by omega) v2 _ ((xs++put 3 1)++put b 1) base _ hg2.own hg2.size (by omega)).mono ?_
 rintro e w3 ⟨v3,rfl,ho,hon⟩
 have hg3:=hg2.step ho hon.grown
 clear ho hon hg2
 have c0:=hg3.box.cell 0 rfl
 have c12:=hg3.box.cell 12 rfl
 go_wp2_with fail
 refine (put_any ve (by omega) 8 (by omega) (by omega) v3 _ (((xs++put 3 1)++put b 1)++put g 4) base _ hg3.own hg3.size (by omega)).mono ?_
 rintro e w4 ⟨v4,rfl,ho,hon⟩
 have hg4:=hg3.step ho hon.grown
 clear ho hon hg3
 have c13:=hg4.box.cell 13 rfl
 go_wp2_with fail
 refine (put_any ex (by omega) 8 (by omega) (by omega) v4 _ ((((xs++put 3 1)++put b 1)++put g 4)++put ve 8) base _ hg4.own hg4.size (by omega)).mono ?_
 rintro e w5 ⟨v5,rfl,ho,hon⟩
 have hg5:=hg4.step ho hon.grown
 clear ho hon hg4
 have c10:=hg5.box.cell 10 rfl
 go_wp2_with fail
 refine (putText_any ke ke HC1.out v5 _ (((((xs++put 3 1)++put b 1)++put g 4)++put ve 8)++put ex 8) base _ hg5.own hg5.size (by omega) (by omega)).mono ?_
 rintro e w6 ⟨v6,rfl,ho,hon⟩
 have hg6:=hg5.step ho hon.grown
 clear ho hon hg5
 have c11:=hg6.box.cell 11 rfl
 go_wp2_with fail
 refine (putText_any va va HC2.out v6 _ ((((((xs++put 3 1)++put b 1)++put g 4)++put ve 8)++put ex 8)++put ke.size 2++strBytes ke) base _ hg6.own hg6.size (by omega) (by omega)).mono ?_
 rintro e w7 ⟨v7,rfl,ho,hon⟩
 have hg7:=hg6.step ho hon.grown
 clear ho hon hg6
 go_wp2_with fail
 go_ret
 refine ⟨_,rfl,?_,hg7.below⟩
 rw [HLEN.out]
 refine row_eq hg7.own (by omega) ?_
 simp [bytesOf,more,text]
theorem rput_6 (r:Rcd) (hk:r.kind=6) (hm:May r) (hi:Is r) (v:Value) (len:Nat) (xs:List Int) (base:Nat) (w:World)
  (hown:w.ownsRow base 5 1 v len (cellsOf xs)) (hb:base≤w.heap.size) (hl:len≤1000000):Calls Tryz.prog 64 #[v,rv r] w fun e w'=>Puts base w xs len r e w':=by
 obtain ⟨k,b,g,q1,q2,q3,s1,s2,ri,se,ke,va,ve,ex⟩:=r
 simp only at hk
 subst hk
 have hb0:0≤b:=hm.2.2.1
 have hb1:b < 64:=hm.2.2.2.1
 have hgn:g < 4294967296:=hi.gen
 have hs1:s1 < 18446744073709551616:=hi.seq
 have hs2:s2 < 4294967296:=hi.serial
 have hse:se < 18446744073709551616:=hi.secret
 have hve:ve < 18446744073709551616:=hi.version
 have hex:ex < 18446744073709551616:=hi.expiry
 clear hm hi
 obtain ⟨b,rfl⟩:∃ x:Nat,b=(x:Int):=⟨b.toNat,by omega⟩
 have hg0:=Going.start (cells ⟨6,b,g,q1,q2,q3,s1,s2,ri,se,ke,va,ve,ex⟩) hown hb
 have HOWN:=Lib.hid hown
 clear hown
 simp only [rv,cells] at hg0 ⊢
 have hlen:(bytesOf ⟨6,b,g,q1,q2,q3,s1,s2,ri,se,ke,va,ve,ex⟩).length=10:=by simp [bytesOf,more,text,put_length,strBytes_length];try omega
 have HLEN:=Lib.hid hlen
 clear hlen
 go_enter Tryz.func64,Tryz.ntmps64
 go_wp2_with fail
 refine (put_any 6 (by omega) 1 (by omega) (by omega) v _ xs base _ hg0.own hg0.size (by omega)).mono ?_
 rintro e w1 ⟨v1,rfl,ho,hon⟩
 have hg1:=hg0.step ho hon.grown
 clear ho hon hg0
 have c1:=hg1.box.cell 1 rfl
 go_wp2_with fail
 refine (put_any b (by omega) 1 (by omega) (by omega) v1 _ (xs++put 6 1) base _ hg1.own hg1.size (by omega)).mono ?_
 rintro e w2 ⟨v2,rfl,ho,hon⟩
 have hg2:=hg1.step ho hon.grown
 clear ho hon hg1
 have c2:=hg2.box.cell 2 rfl
 go_wp2_with fail
 refine (put_any g (by omega) 4 (by omega) (by omega) v2 _ ((xs++put 6 1)++put b 1) base _ hg2.own hg2.size (by omega)).mono ?_
 rintro e w3 ⟨v3,rfl,ho,hon⟩
 have hg3:=hg2.step ho hon.grown
 clear ho hon hg2
 have c0:=hg3.box.cell 0 rfl
 have c7:=hg3.box.cell 7 rfl
 go_wp2_with fail
 refine (put_any s2 (by omega) 4 (by omega) (by omega) v3 _ (((xs++put 6 1)++put b 1)++put g 4) base _ hg3.own hg3.size (by omega)).mono ?_
 rintro e w4 ⟨v4,rfl,ho,hon⟩
 have hg4:=hg3.step ho hon.grown
 clear ho hon hg3
 go_wp2_with fail
 go_ret
 refine ⟨_,rfl,?_,hg4.below⟩
 rw [HLEN.out]
 refine row_eq hg4.own (by omega) ?_
 simp [bytesOf,more,text]
end Go.Proofs.YtgjofinbdigmcaaGreat.Rec
end
