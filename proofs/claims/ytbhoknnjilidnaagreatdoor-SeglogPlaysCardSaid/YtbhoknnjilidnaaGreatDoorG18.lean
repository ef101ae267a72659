/- Plain mathematics of the sum of layer 1: shifting a register of 32 bits is linear and one-to-one, so the bitwise sum is the bytewise one, and a byte that is changed changes the sum. No condition but that registers are below 2^32. Layer 5 by plain lists: a frame, and what any bytes begin with. What each function of layer 1 and of its reference returns, for every register below 2^32 and every slice of bytes that can be read: contracts, callees first. Contracts of crc.Add, crc.Sum and the reference's Sum: for every sum below 2^32 and every slice of bytes that can be read they return the sum, and leave the world alone. In one text: Contracts of layer 5: Put, Get and Size, and the reference's Frame and Get. Contracts of layer 5's Get, and of the reference's. Contract of the reference's Get of layer 5; and layer 5's Get at whatever bytes. -/
import Derived.Laws.BitsAllLaws
import Derived.Test.YtbhoknnjilidnaaGreatDoorG01
import Derived.Test.YtbhoknnjilidnaaGreatDoorG04
import Derived.Test.YtbhoknnjilidnaaGreatDoorProg
import Derived.WalkKit
import Derived.ProofKit
import Derived.Below
import Derived.Outline
import Derived.WalkSpells
import Derived.WalkLawsBesides
import Derived.LoopTactic
import Derived.Lib.Hide
import Derived.Lib.SlBytesConst
set_option linter.unusedVariables false
set_option maxHeartbeats 2000000
set_option maxRecDepth 100000
section
namespace Go.Proofs.YtbhoknnjilidnaaGreatDoor.Crc
open Go.Proofs.YtbhoknnjilidnaaGreatDoor.Mem
def sh (n:Nat):Nat:=if n % 2=1 then n / 2 ^^^ 3988292384 else n / 2
def shN:Nat→Nat→Nat
 | 0,n=>n
 | k+1,n=>sh (shN k n)
def upd (r:Nat) (z:Int):Nat:=shN 8 (r ^^^ z.toNat)
def come (r:Nat) (zs:List Int):Nat:=zs.foldl upd r
def neg32 (n:Nat):Nat:=4294967295 - n
def sumOf (s:Nat) (zs:List Int):Nat:=neg32 (come (neg32 s) zs)
theorem xor_lt32 {a b:Nat} (ha:a < 4294967296) (hb:b < 4294967296):a ^^^ b < 4294967296 :=
 Nat.xor_lt_two_pow (n:=32) ha hb
theorem sh_lt {n:Nat} (h:n < 4294967296):sh n < 4294967296:=by
 unfold sh
 split
 ·exact xor_lt32 (by omega) (by omega)
 ·omega
theorem shN_lt {n:Nat} (k:Nat) (h:n < 4294967296):shN k n < 4294967296:=by
 induction k with
 | zero=>exact h
 | succ k ih=>exact sh_lt ih
theorem neg32_lt (n:Nat):neg32 n < 4294967296:=by unfold neg32;omega
theorem upd_lt {r:Nat} {z:Int} (hr:r < 4294967296) (hz:z≤255):upd r z < 4294967296 :=
 shN_lt 8 (xor_lt32 hr (by omega))
theorem come_lt {r:Nat} {zs:List Int} (hr:r < 4294967296) (hz:Bytes zs):come r zs < 4294967296:=by
 induction zs generalizing r with
 | nil=>exact hr
 | cons z zs ih =>
  exact ih (upd_lt hr (hz z (by simp)).2) (fun y hy=>hz y (by simp [hy]))
theorem come_append (r:Nat) (xs ys:List Int):come r (xs++ys)=come (come r xs) ys:=by
 unfold come;rw [List.foldl_append]
theorem come_snoc (r:Nat) (xs:List Int) (z:Int):come r (xs++[z])=upd (come r xs) z:=by
 rw [come_append];rfl
theorem sumOf_lt (s:Nat) (zs:List Int):sumOf s zs < 4294967296:=neg32_lt _
end Go.Proofs.YtbhoknnjilidnaaGreatDoor.Crc
end
section
namespace Go.Proofs.YtbhoknnjilidnaaGreatDoor.Frame
open Go.Proofs.YtbhoknnjilidnaaGreatDoor.Mem
open Go.Proofs.YtbhoknnjilidnaaGreatDoor.Pack (put num got left shortBy put_length put_bytes num_put num_got_lt left_bytes got_bytes)
open Go.Proofs.YtbhoknnjilidnaaGreatDoor.Crc (sumOf sumOf_lt)
def frm (zs:List Int):List Int:=put zs.length 4++put (sumOf 0 zs) 4++zs
def head (bs:List Int):Nat:=num (got bs 4)
def told (bs:List Int):Nat:=num (got (left bs 4) 4)
def inner (bs:List Int):List Int:=(bs.drop 8).take (head bs)
def bad (bs:List Int):Nat :=
 if bs.length < 8 then 3 else if head bs < 1∨20000 < head bs then 2 else if bs.length < 8+head bs then 3 else if sumOf 0 (inner bs)≠told bs then 4 else 0
def body (bs:List Int):List Int:=if bad bs=0 then inner bs else []
def many (bs:List Int):Nat:=if bad bs=0 then 8+head bs else 0
theorem frm_length (zs:List Int):(frm zs).length=zs.length+8:=by
 unfold frm
 rw [List.length_append,List.length_append,put_length,put_length];omega
theorem frm_bytes {zs:List Int} (h:Bytes zs):Bytes (frm zs):=bytes_append (bytes_append (put_bytes _ _) (put_bytes _ _)) h
theorem got_take {bs:List Int} {k m:Nat} (hk:k≤m) (hm:m≤bs.length):got (bs.take m) k=got bs k:=by
 unfold got
 rw [if_pos (by rw [List.length_take];omega),if_pos (by omega),List.take_take,Nat.min_eq_left hk]
theorem left_take {bs:List Int} {k m:Nat} (hk:k≤m) (hm:m≤bs.length):left (bs.take m) k=(left bs k).take (m - k):=by
 unfold left
 rw [if_pos (by rw [List.length_take];omega),if_pos (by omega),List.drop_take]
theorem left_length {bs:List Int} {k:Nat} (hk:k≤bs.length):(left bs k).length=bs.length - k:=by
 unfold left
 rw [if_pos hk,List.length_drop]
theorem head_take {bs:List Int} (h:8≤bs.length):num (got (bs.take 8) 4)=head bs:=by
 rw [got_take (by omega) h];rfl
theorem told_take {bs:List Int} (h:8≤bs.length):num (got (left (bs.take 8) 4) 4)=told bs:=by
 rw [left_take (by omega) h,got_take (by omega) (by rw [left_length (by omega)];omega)];rfl
theorem head_lt {bs:List Int} (h:Bytes bs):head bs < 18446744073709551616:=num_got_lt h (by omega)
theorem told_lt {bs:List Int} (h:Bytes bs):told bs < 18446744073709551616:=num_got_lt (left_bytes h 4) (by omega)
theorem inner_length {bs:List Int} (h:8+head bs≤bs.length):(inner bs).length=head bs:=by
 unfold inner
 rw [List.length_take,List.length_drop];omega
theorem inner_bytes {bs:List Int} (h:Bytes bs):Bytes (inner bs):=bytes_take (bytes_drop h 8) _
theorem bad_short {bs:List Int} (h:bs.length < 8):bad bs=3:=if_pos h
theorem bad_form {bs:List Int} (h:8≤bs.length) (h2:head bs < 1∨20000 < head bs):bad bs=2:=by
 unfold bad
 rw [if_neg (by omega),if_pos h2]
theorem bad_trunc {bs:List Int} (h:8≤bs.length) (h1:1≤head bs) (h2:head bs≤20000) (h3:bs.length < 8+head bs):bad bs=3:=by
 unfold bad
 rw [if_neg (by omega),if_neg (by omega),if_pos h3]
theorem bad_sum {bs:List Int} (h1:1≤head bs) (h2:head bs≤20000) (h3:8+head bs≤bs.length) (h4:sumOf 0 (inner bs)≠told bs):bad bs=4:=by
 unfold bad
 rw [if_neg (by omega),if_neg (by omega),if_neg (by omega),if_pos h4]
theorem bad_none {bs:List Int} (h1:1≤head bs) (h2:head bs≤20000) (h3:8+head bs≤bs.length) (h4:sumOf 0 (inner bs)=told bs):bad bs=0:=by
 unfold bad
 rw [if_neg (by omega),if_neg (by omega),if_neg (by omega),if_neg (by simpa using h4)]
theorem body_none {bs:List Int} (h:bad bs≠0):body bs=[]:=if_neg h
theorem many_none {bs:List Int} (h:bad bs≠0):many bs=0:=if_neg h
theorem body_bytes {bs:List Int} (h:Bytes bs):Bytes (body bs):=by
 unfold body
 split
 ·exact inner_bytes h
 ·exact bytes_nil
theorem head_frm {zs:List Int} (h:zs.length≤20000) (ys:List Int):head (frm zs++ys)=zs.length:=by
 unfold head frm
 rw [List.append_assoc,List.append_assoc,Pack.got_front _ (put_length _ _),num_put]
 exact Nat.mod_eq_of_lt (by omega)
theorem told_frm (zs ys:List Int):told (frm zs++ys)=sumOf 0 zs:=by
 unfold told frm
 rw [List.append_assoc,List.append_assoc,Pack.left_front _ (put_length _ _),Pack.got_front _ (put_length _ _),num_put]
 exact Nat.mod_eq_of_lt (sumOf_lt 0 zs)
theorem drop_frm (zs ys:List Int):(frm zs++ys).drop 8=zs++ys:=by
 unfold frm
 have:(put zs.length 4++put (sumOf 0 zs) 4).length=8:=by rw [List.length_append,put_length,put_length]
 rw [List.append_assoc (put zs.length 4++put (sumOf 0 zs) 4),← this,List.drop_left]
theorem inner_frm {zs:List Int} (h:zs.length≤20000) (ys:List Int):inner (frm zs++ys)=zs:=by
 unfold inner
 rw [head_frm h,drop_frm,List.take_left]
theorem bad_frm {zs:List Int} (h0:1≤zs.length) (h:zs.length≤20000) (ys:List Int):bad (frm zs++ys)=0:=by
 refine bad_none (by rw [head_frm h];exact h0) (by rw [head_frm h];exact h) ?_ ?_
 ·rw [head_frm h,List.length_append,frm_length];omega
 ·rw [inner_frm h,told_frm]
theorem body_frm {zs:List Int} (h0:1≤zs.length) (h:zs.length≤20000) (ys:List Int):body (frm zs++ys)=zs:=by
 unfold body
 rw [if_pos (bad_frm h0 h ys),inner_frm h]
theorem many_frm {zs:List Int} (h0:1≤zs.length) (h:zs.length≤20000) (ys:List Int):many (frm zs++ys)=zs.length+8:=by
 unfold many
 rw [if_pos (bad_frm h0 h ys),head_frm h];omega
theorem bad_cut {zs:List Int} (h0:1≤zs.length) (h:zs.length≤20000) (k:Nat) (hk:k < zs.length+8):bad ((frm zs).take k)=3:=by
 have hl:((frm zs).take k).length=k:=by rw [List.length_take,frm_length];omega
 by_cases h8:k < 8
 ·exact bad_short (by omega)
 ·have e:head ((frm zs).take k)=zs.length:=by
   unfold head
   rw [got_take (by omega) (by rw [frm_length];omega)]
   have:=head_frm h []
   rw [List.append_nil] at this
   exact this
  exact bad_trunc (by omega) (by omega) (by omega) (by omega)
end Go.Proofs.YtbhoknnjilidnaaGreatDoor.Frame
end
section
namespace Go.Proofs.YtbhoknnjilidnaaGreatDoor.Crc
open Go.Proofs.YtbhoknnjilidnaaGreatDoor.Mem
open Go.ChangeShapes Go.WideShapes Go.ChangeAt Go.RowKit
theorem ret_int {k:IntKind} {a b:Int} (h:a=b):Ending.returned (.int k a) = .returned (.int k b):=by rw [h]
theorem val_int {k:IntKind} {a b:Int} (h:a=b):Value.int k a = .int k b:=by rw [h]
theorem u32_xorP (n:Nat) (hn:n < 4294967296):bits .xor .u32 ((n:Int) / 2) 3988292384=((n / 2 ^^^ 3988292384:Nat):Int):=by
 have h:=u32_xor_nat (n / 2) 3988292384 (by omega) (by omega)
 rw [← h]
 congr 1
theorem sh_odd {n:Nat} (hn:n < 4294967296) (h:(((n:Int) % 2) == 1)=true):bits .xor .u32 ((n:Int) / 2) 3988292384=((sh n:Nat):Int):=by
 rw [u32_xorP n hn]
 have h1:n % 2=1:=by simp at h;omega
 unfold sh;rw [if_pos h1]
theorem sh_evn {n:Nat} (h:(((n:Int) % 2) == 1)=false):(n:Int) / 2=((sh n:Nat):Int):=by
 have h1:¬ n % 2=1:=by simp at h;omega
 unfold sh;rw [if_neg h1];omega
theorem u32_and1 (n:Nat) (hn:n < 4294967296):bits .and .u32 (n:Int) 1=(n:Int) % 2:=by
 have h:=u32_and_nat n 1 hn (by omega)
 rw [nat_mask1] at h
 have e:((1:Nat):Int)=1:=rfl
 rw [e] at h
 rw [h];omega
theorem shiftByte_any (n:Nat) (hn:n < 4294967296) (w:World) :
  Calls Tryz.prog 111 #[.int .u32 (n:Int)] w fun e w'=>e = .returned (.int .u32 ((shN 8 n:Nat):Int))∧w=w':=by
 go_enter Tryz.func111,Tryz.ntmps111
 go_wp2
 go_loop [0,4] (fun r i=>∃ k:Nat,k≤8∧i = .int .i64 k∧r = .int .u32 ((shN k n:Nat):Int)) (fun _ i=>8 - (intOf i).toNat)
 case atStart=>exact ⟨0,by omega,rfl,rfl⟩
 case round =>
  obtain ⟨k,hk,rfl,rfl⟩:=hrel
  have hlt:=shN_lt k hn
  have ha:=u32_and1 (shN k n) hlt
  go_wp2
  ·go_round
   case rel=>exact ⟨k+1,by omega,by go_num,val_int (sh_odd hlt ‹_›)⟩
   case measure=>simp [intOf];omega
  ·go_round
   case rel=>exact ⟨k+1,by omega,by go_num,val_int (sh_evn ‹_›)⟩
   case measure=>simp [intOf];omega
  ·go_ret
   obtain rfl:k=8:=by omega
   exact ⟨rfl,rfl⟩
theorem come_step (r:Nat) {zs:List Int} {k:Nat} (h:k < zs.length):come r (zs.take (k+1))=upd (come r (zs.take k)) (zs.getD k 0):=by
 rw [take_snoc zs k h,come_snoc]
def hv (c j:Nat):Nat:=c / 2 ^ j
theorem u32_xbyte (a b:Nat) (ha:a < 4294967296) (hb:b < 256):bits .xor .u32 (a:Int) (b:Int)=((a ^^^ b:Nat):Int) :=
 u32_xor_nat a b ha (by omega)
theorem come_all (r:Nat) {zs:List Int} {k:Nat} (h:¬ k < zs.length):come r (zs.take k)=come r zs:=by
 rw [List.take_of_length_le (by omega)]
end Go.Proofs.YtbhoknnjilidnaaGreatDoor.Crc
end
section
namespace Go.Proofs.YtbhoknnjilidnaaGreatDoor.Crc
open Go.Proofs.YtbhoknnjilidnaaGreatDoor.Mem
open Go.ChangeShapes Go.WideShapes Go.ChangeAt Go.RowKit
theorem u32_not (s:Nat) (hs:s < 4294967296):bits .xor .u32 IntKind.u32.max (s:Int)=((neg32 s:Nat):Int):=by
 show IntKind.u32.wrap ((BitVec.ofInt 32 IntKind.u32.max ^^^ BitVec.ofInt 32 (s:Int)).toNat:Int)=_
 have h1:BitVec.ofInt 32 IntKind.u32.max=BitVec.allOnes 32:=by decide
 rw [h1,BitVec.allOnes_xor,BitVec.toNat_not,ofInt_u32 s (by omega),IntKind.wrap_u32']
 unfold neg32
 omega
theorem upd_step {r:Nat} {zs:List Int} {k c:Nat} (h:k < zs.length) (e:zs.getD k 0=(c:Int)):shN 8 (come r (zs.take k) ^^^ c)=come r (zs.take (k+1)):=by
 rw [come_step r h,e];rfl
theorem add_any (s:Nat) (hs:s < 4294967296) (a:Option Addr) (len cap:Nat) (zs:List Int) (w:World) (hrow:Row w a len zs) (hm:len≤140737488355328) :
  Calls Tryz.prog 98 #[.int .u32 (s:Int),.slice a len cap] w fun e w'=>e = .returned (.int .u32 ((sumOf s zs:Nat):Int))∧w=w':=by
 obtain ⟨hl,hb,hc⟩:=hrow
 subst hl
 have hn:=u32_not s hs
 go_enter Tryz.func98,Tryz.ntmps98
 go_wp2
 have HN:=Lib.hid hn
 clear hn
 obtain ⟨r,hr⟩:∃ r,r=neg32 s:=⟨_,rfl⟩
 have hr32:=neg32_lt s
 have HR:=Lib.hid hr
 rw [← hr] at hr32 ⊢
 clear hr
 go_loop [5,7,12] (fun r' _ i=>∃ k:Nat,k≤zs.length∧i = .int .i64 k∧r' = .int .u32 ((come r (zs.take k):Nat):Int)) (fun _ _ i=>zs.length - (intOf i).toNat)
 case atStart=>exact ⟨0,by omega,rfl,rfl⟩
 case round =>
  obtain ⟨k,hk,rfl,rfl⟩:=hrel
  have hcm:=come_lt (r:=r) hr32 (bytes_take hb k)
  by_cases hlt:k < zs.length
  ·obtain ⟨b,off,rfl,_,hcell⟩:=hc (by omega)
   have hz:=getD_byte hb hlt
   obtain ⟨c,hcb,hce⟩:∃ c:Nat,c < 256∧zs.getD k 0=(c:Int):=⟨(zs.getD k 0).toNat,by omega,by omega⟩
   have hk0:=hcell k hlt
   rw [hce] at hk0
   have HE:=Lib.hid (upd_step (r:=r) hlt hce)
   clear hce hz hcell hc
   obtain ⟨R,hR⟩:∃ R,R=come r (zs.take k):=⟨_,rfl⟩
   rw [← hR] at hcm HE ⊢
   clear hR
   have hx:=u32_xbyte R c hcm hcb
   go_wp2_with (go_at_call 111;refine (shiftByte_any _ (xor_lt32 hcm (by omega)) _).mono ?_;rintro e w' ⟨rfl,rfl⟩)
   go_round
   case rel=>exact ⟨k+1,by omega,by go_num,by rw [HE.out]⟩
   case measure=>simp [intOf];omega
  ·have HE:=Lib.hid (come_all r hlt)
   have hnn:=u32_not (come r (zs.take k)) hcm
   go_wp2
   go_ret
   exact ⟨ret_int (by rw [HE.out,HR.out];rfl),rfl⟩
theorem sum_any (a:Option Addr) (len cap:Nat) (zs:List Int) (w:World) (hrow:Row w a len zs) (hm:len≤140737488355328) :
  Calls Tryz.prog 66 #[.slice a len cap] w fun e w'=>e = .returned (.int .u32 ((sumOf 0 zs:Nat):Int))∧w=w':=by
 go_enter Tryz.func66,Tryz.ntmps66
 go_wp2_with (go_at_call 98;refine (add_any 0 (by omega) _ _ _ zs _ hrow hm).mono ?_;rintro e w' ⟨rfl,rfl⟩)
 go_ret
 exact ⟨rfl,rfl⟩
end Go.Proofs.YtbhoknnjilidnaaGreatDoor.Crc
end
section
namespace Go.Proofs.YtbhoknnjilidnaaGreatDoor.Frame
open Go.Proofs.YtbhoknnjilidnaaGreatDoor.Mem Go.Proofs.YtbhoknnjilidnaaGreatDoor.Err
open Go.Proofs.YtbhoknnjilidnaaGreatDoor.Pack (put num got left shortBy put_length put_bytes put_any refPut_any new_any number_any Rd Rf u8_info)
open Go.Proofs.YtbhoknnjilidnaaGreatDoor.Crc (sumOf sumOf_lt sum_any)
open Go.ChangeShapes Go.WideShapes Go.ChangeAt Go.RowKit
theorem size_any (n:Int) (h0:0≤n) (h:n≤9000000000) (w:World) :
  Calls Tryz.prog 64 #[.int .i64 n] w fun e w'=>e = .returned (.int .i64 (8+n))∧w=w':=by
 go_enter Tryz.func64,Tryz.ntmps64
 go_wp2
 go_ret
 exact ⟨rfl,rfl⟩
theorem may_yes (n:Int) (h1:1≤n) (h2:n≤20000) (w:World) :
  Calls Tryz.prog 63 #[.int .u64 n] w fun e w'=>e = .returned (.bool true)∧w=w':=by
 go_enter Tryz.func63,Tryz.ntmps63
 go_wp2
 go_ret
 exact ⟨rfl,rfl⟩
theorem may_no (n:Int) (h0:0≤n) (h:n < 1∨20000 < n) (w:World) :
  Calls Tryz.prog 63 #[.int .u64 n] w fun e w'=>e = .returned (.bool false)∧w=w':=by
 rcases h with h|h
 ·go_enter Tryz.func63,Tryz.ntmps63
  go_wp2
  go_ret
  exact ⟨rfl,rfl⟩
 ·have h1:1≤n:=by omega
  have h2:decide (n≤20000)=false:=by simp;omega
  go_enter Tryz.func63,Tryz.ntmps63
  go_wp2
  go_ret
  exact ⟨rfl,rfl⟩
theorem put_yes (a:Option Addr) (cap:Nat) (zs:List Int) (w:World) (h:Row w a zs.length zs) (hn:a=none→cap=0) (h1:1≤zs.length) (h2:zs.length≤20000) :
  Calls Tryz.prog 36 #[.slice a zs.length cap] w fun e w'=>∃ v,e = .returned (.tuple #[v,errV 0])∧w'.ownsRow w.heap.size 5 1 v (zs.length+8) (cellsOf (frm zs))∧Below w.heap.size w w':=by
 obtain ⟨i0,hi0,hz0,hz1,hz2⟩:=info_parts u8_info
 have HN:=Lib.hid hn
 clear hn
 have hs:=sumOf_lt 0 zs
 go_enter Tryz.func36,Tryz.ntmps36
 go_wp2_with fail
 refine (may_yes _ (by omega) (by omega) _).mono ?_
 rintro e w' ⟨rfl,rfl⟩
 go_wp2_with fail
 refine (size_any _ (by omega) (by omega) _).mono ?_
 rintro e w' ⟨rfl,rfl⟩
 go_wp2_with (at_make;refine wpList_make_own _ rfl _ _ 81 rfl w.heap.size 5 i0 _ 1 Tryz.underlying81 hi0 hz0 hz1 .i64 .i64 (8+(zs.length:Int)) (8+zs.length) rfl rfl (by omega) (by rw [hz2];omega) (by unfold maxLen;omega) (Nat.le_refl _) ?_;intro w1 ho1 hg1)
 have hb1:Below w.heap.size w w1:=(Below.refl _ w).grown hg1 (Nat.le_refl _) (fun k hk=>by cases hk)
 have hx1:=h.below hb1
 clear hg1
 refine (put_any zs.length (by omega) 4 (by omega) (by omega) _ 0 [] w.heap.size w1 ho1 hb1.size (by omega)).mono ?_
 rintro e w2 ⟨v2,rfl,ho2,hon2⟩
 have hb2:=hb1.trans (hon2.below ho1 hb1.size)
 have hx2:=h.below hb2
 clear hon2 ho1 hx1 hb1
 go_wp2_with fail
 refine (sum_any a _ cap zs w2 hx2 (by omega)).mono ?_
 rintro e w' ⟨rfl,rfl⟩
 go_wp2_with fail
 refine (put_any (sumOf 0 zs) (by omega) 4 (by omega) (by omega) v2 _ _ w.heap.size w2 ho2 hb2.size (by omega)).mono ?_
 rintro e w3 ⟨v3,rfl,ho3,hon3⟩
 have hb3:=hb2.trans (hon3.below ho2 hb2.size)
 have hx3:=h.below hb3
 clear hon3 ho2 hx2 hb2
 go_wp2_with (at_builtin;refine wpList_append_onto rfl _ _ 81 rfl w.heap.size 5 i0 _ 1 1 Tryz.underlying81 hi0 hz0 hz1 hz2 rfl (by omega) v3 _ _ rfl ho3 (.slice a zs.length cap) zs.length (cellsOf zs) rfl (hx3.sees HN.out) (cellsOf_one zs) (by simp only [maxLen];omega) (by omega) hb3.size ?_;intro v4 w4 ho4 hon4)
 have hb4:=hb3.trans (hon4.below ho3 hb3.size)
 go_ret2
 refine ⟨v4,rfl,?_,hb4⟩
 have e1:0+4+4+zs.length=zs.length+8:=by omega
 rw [e1,← cellsOf_append] at ho4
 exact ho4
end Go.Proofs.YtbhoknnjilidnaaGreatDoor.Frame
namespace Go.Proofs.YtbhoknnjilidnaaGreatDoor.Frame
open Go.Proofs.YtbhoknnjilidnaaGreatDoor.Mem Go.Proofs.YtbhoknnjilidnaaGreatDoor.Err
open Go.Proofs.YtbhoknnjilidnaaGreatDoor.Pack (put num got left shortBy put_length put_bytes put_any refPut_any new_any number_any Rd Rf u8_info)
open Go.Proofs.YtbhoknnjilidnaaGreatDoor.Crc (sumOf sumOf_lt sum_any)
open Go.ChangeShapes Go.WideShapes Go.ChangeAt Go.RowKit
structure In (w:World) (a:Option Addr) (len cap:Nat) (bs:List Int):Prop where
 row:Row w a len bs
 fits:len≤cap
 small:cap≤maxLen
 nil:a=none→cap=0
theorem In.below {w w':World} {a:Option Addr} {len cap:Nat} {bs:List Int} (h:In w a len cap bs) (hb:Below w.heap.size w w'):In w' a len cap bs:=⟨h.row.below hb,h.fits,h.small,h.nil⟩
theorem get_short (a:Option Addr) (len cap:Nat) (w:World) (h8:len < 8) :
  Calls Tryz.prog 73 #[.slice a len cap] w fun e w'=>e = .returned (.tuple #[.slice none 0 0,.int .i64 0,errV 3])∧w=w':=by
 go_enter Tryz.func73,Tryz.ntmps73
 go_wp2_with fail
 go_ret3
 exact ⟨rfl,rfl⟩
theorem get_long (a:Option Addr) (cap:Nat) (bs:List Int) (w:World) (h:In w a bs.length cap bs) (h8:8≤bs.length) (hl:bs.length≤1073741824) :
  Calls Tryz.prog 73 #[.slice a bs.length cap] w fun e w'=>∃ v,e = .returned (.tuple #[v,.int .i64 (many bs:Int),errV (bad bs:Int)])∧w'.ownsRow w.heap.size 5 1 v (body bs).length (cellsOf (body bs))∧Below w.heap.size w w':=by
 obtain ⟨i0,hi0,hz0,hz1,hz2⟩:=info_parts u8_info
 obtain ⟨hr,hlc,hcm,hnil⟩:=h
 obtain ⟨g,off,rfl,hg,_⟩:=hr.2.2 (by omega)
 have hbs:=hr.2.1
 have hhl:=head_lt hbs
 have htl:=told_lt hbs
 have hcm':(cap:Int)≤9223372036854775807:=by simp only [maxLen] at hcm;omega
 have h8c:8≤cap:=by omega
 have hrow8:Row w (some ⟨g,off,none⟩) 8 (bs.take 8):=by
  have:=Pack.Row.part hr 0 8 (by omega) (some ⟨g,off,none⟩) (fun _=>rfl)
  simpa using this
 clear hnil hcm
 go_enter Tryz.func73,Tryz.ntmps73
 go_wp2_with fail
 refine (new_any (some ⟨g,off,none⟩) 8 cap (bs.take 8) w hrow8 (by simp) (by omega)).mono ?_
 rintro e w1 ⟨p,rfl,hp,D,hrd1,hb1,hDa,hDb⟩
 clear hrow8
 have k1:=number_any p _ false 4 (by omega) (by omega) w1 hrd1
 rw [head_take h8] at k1
 go_wp2_with fail
 refine k1.mono ?_
 rintro e w2 ⟨rfl,hrd2,hb2⟩
 clear k1 hrd1
 have k2:=number_any p _ _ 4 (by omega) (by omega) w2 hrd2
 rw [told_take h8] at k2
 go_wp2_with fail
 refine k2.mono ?_
 rintro e w3 ⟨rfl,hrd3,hb3⟩
 clear k2 hrd2 hrd3
 have hbB:Below w.heap.size w w2:=hb1.trans (hb2.below hb1.size (fun k hk=>by omega))
 have hbC:Below w.heap.size w w3:=hbB.trans (hb3.below hbB.size (fun k hk=>by omega))
 have hr3:=hr.below hbC
 clear hb1 hb2 hb3 hbB hp hDa hDb
 have hnum:∀ n:Nat,head bs=n→Hid (head bs=n):=fun n h=>Lib.hid h
 obtain ⟨n,hn⟩:∃ n,head bs=n:=⟨_,rfl⟩
 obtain ⟨s,hs⟩:∃ s,told bs=s:=⟨_,rfl⟩
 rw [hn] at hhl ⊢
 rw [hs] at htl ⊢
 have HN:=Lib.hid hn
 have HS:=Lib.hid hs
 clear hn hs hnum
 have hnil:w3.ownsRow w.heap.size 5 1 (.slice none 0 0) 0 (cellsOf []):=World.ownsRow_nil _ _ _ _
 by_cases hf:n < 1∨20000 < n
 ·go_wp2_with fail
  refine (may_no _ (by omega) (by omega) _).mono ?_
  rintro e w' ⟨rfl,rfl⟩
  go_wp2_with fail
  go_ret3
  have e1:bad bs=2:=bad_form h8 (by rw [HN.out];exact hf)
  have e2:=many_none (bs:=bs) (by omega)
  have e3:=body_none (bs:=bs) (by omega)
  rw [e1,e2,e3]
  exact ⟨.slice none 0 0,rfl,hnil,hbC⟩
 ·have h1:1≤n:=by omega
  have h2:n≤20000:=by omega
  clear hf
  go_wp2_with fail
  refine (may_yes _ (by omega) (by omega) _).mono ?_
  rintro e w' ⟨rfl,rfl⟩
  go_wp2_with fail
  refine (size_any _ (by omega) (by omega) _).mono ?_
  rintro e w' ⟨rfl,rfl⟩
  by_cases ht:bs.length < 8+n
  ·have ht':decide ((bs.length:Int) < 8+(n:Int))=true:=by simp;omega
   go_wp2_with fail
   go_ret3
   have e1:bad bs=3:=bad_trunc h8 (by rw [HN.out];exact h1) (by rw [HN.out];exact h2) (by rw [HN.out];exact ht)
   have e2:=many_none (bs:=bs) (by omega)
   have e3:=body_none (bs:=bs) (by omega)
   rw [e1,e2,e3]
   exact ⟨.slice none 0 0,rfl,hnil,hbC⟩
  ·have ht':decide ((bs.length:Int) < 8+(n:Int))=false:=by simp;omega
   have hin:inner bs=(bs.drop 8).take n:=by unfold inner;rw [HN.out]
   have hlen:(inner bs).length=n:=by rw [inner_length (by rw [HN.out];omega),HN.out]
   have hby:Bytes (inner bs):=inner_bytes hbs
   have hri:Row w3 (some ⟨g,off+8,none⟩) n (inner bs):=by rw [hin];exact Pack.Row.part hr3 8 n (by omega) _ (fun _=>rfl)
   have hsee:∀ y,y=Value.slice (some ⟨g,off+8,none⟩) n (cap - 8)→Sees w3 1 y n (cellsOf (inner bs)):=fun y h=>h ▸ hri.sees (by simp)
   have u1:(8:Int)+(n:Int)≤(cap:Int):=by omega
   have u2:(n:Int)+8≤(cap:Int):=by omega
   have hc8:¬ cap=8:=by omega
   obtain ⟨Z,hZ⟩:∃ Z,inner bs=Z:=⟨_,rfl⟩
   rw [hZ] at hlen hby hri hsee
   have HZ:=Lib.hid hZ
   clear hZ hin hr hr3
   have hown:=World.ownsRow_nil w3 w3.heap.size 5 1
   have HB:=Lib.hid hbC
   clear hnil
   have hsl:=sumOf_lt 0 Z
   go_wp2_with (at_builtin;refine wpList_append_onto rfl _ _ 81 rfl w3.heap.size 5 i0 _ 1 1 Tryz.underlying81 hi0 hz0 hz1 hz2 rfl (by omega) (.slice none 0 0) 0 [] rfl hown _ n (cellsOf Z) rfl (hsee _ (by simp [Act.eval])) (cellsOf_one _) (by unfold maxLen;omega) (by omega) (Nat.le_refl _) ?_;intro v4 w4 ho4 hon4)
   have hb4:=hon4.below hown (Nat.le_refl _)
   have hb4':=HB.out.trans (hb4.mono HB.out.size)
   rw [Nat.zero_add,List.nil_append] at ho4
   have ho4':w4.ownsRow w.heap.size 5 1 v4 n (cellsOf Z):=⟨ho4.1,by
    rcases ho4.2 with h|⟨g',c',cur',q1,q2,q3⟩
    ·exact .inl h
    ·exact .inr ⟨g',c',cur',q1,Nat.le_trans HB.out.size q2,q3⟩⟩
   obtain ⟨a4,c4,rfl,hr4,hl4,hD4⟩:=own_shape ho4 hby
   have HL:=Lib.hid hlen
   clear hon4 hown hsee hri hb4 ho4 hl4 hlen
   refine (sum_any a4 n c4 Z w4 hr4 (by omega)).mono ?_
   rintro e w' ⟨rfl,rfl⟩
   by_cases hq:sumOf 0 Z=s
   ·have e1:bad bs=0:=bad_none (by rw [HN.out];exact h1) (by rw [HN.out];exact h2) (by rw [HN.out];omega) (by rw [HZ.out,HS.out];exact hq)
    have e2:many bs=8+n:=by unfold many;rw [if_pos e1,HN.out]
    have e3:body bs=Z:=by unfold body;rw [if_pos e1,HZ.out]
    have E1:=Lib.hid e1
    have E2:=Lib.hid e2
    have E3:=Lib.hid e3
    have hq':(((sumOf 0 Z:Nat):Int) != (s:Int))=false:=by simp [hq]
    clear e1 e2 e3 hq
    go_wp2_with fail
    go_ret3
    rw [E1.out,E2.out,E3.out]
    rw [HL.out]
    exact ⟨_,rfl,ho4',hb4'⟩
   ·have e1:bad bs=4:=bad_sum (by rw [HN.out];exact h1) (by rw [HN.out];exact h2) (by rw [HN.out];omega) (by rw [HZ.out,HS.out];exact hq)
    have hq':(((sumOf 0 Z:Nat):Int) != (s:Int))=true:=by simp;omega
    have e2:=many_none (bs:=bs) (by omega)
    have e3:=body_none (bs:=bs) (by omega)
    have E1:=Lib.hid e1
    have E2:=Lib.hid e2
    have E3:=Lib.hid e3
    clear e1 e2 e3 hq
    go_wp2_with fail
    go_ret3
    rw [E1.out,E2.out,E3.out]
    exact ⟨.slice none 0 0,rfl,World.ownsRow_nil _ _ _ _,hb4'⟩
end Go.Proofs.YtbhoknnjilidnaaGreatDoor.Frame
namespace Go.Proofs.YtbhoknnjilidnaaGreatDoor.Frame
open Go.Proofs.YtbhoknnjilidnaaGreatDoor.Mem Go.Proofs.YtbhoknnjilidnaaGreatDoor.Err
open Go.Proofs.YtbhoknnjilidnaaGreatDoor.Pack (put num got left shortBy put_length put_bytes put_any refPut_any new_any number_any Rd Rf u8_info)
open Go.Proofs.YtbhoknnjilidnaaGreatDoor.Crc (sumOf sumOf_lt sum_any)
open Go.ChangeShapes Go.WideShapes Go.ChangeAt Go.RowKit
theorem get_any (a:Option Addr) (cap:Nat) (bs:List Int) (w:World) (h:In w a bs.length cap bs) (hl:bs.length≤1073741824) :
  Calls Tryz.prog 73 #[.slice a bs.length cap] w fun e w'=>∃ v,e = .returned (.tuple #[v,.int .i64 (many bs:Int),errV (bad bs:Int)])∧w'.ownsRow w.heap.size 5 1 v (body bs).length (cellsOf (body bs))∧Below w.heap.size w w':=by
 by_cases h8:bs.length < 8
 ·have e1:bad bs=3:=bad_short h8
  have e2:=many_none (bs:=bs) (by omega)
  have e3:=body_none (bs:=bs) (by omega)
  rw [e1,e2,e3]
  refine (get_short a bs.length cap w h8).mono ?_
  rintro e w' ⟨rfl,rfl⟩
  exact ⟨.slice none 0 0,rfl,World.ownsRow_nil _ _ _ _,Below.refl _ _⟩
 ·exact get_long a cap bs w h (by omega) hl
end Go.Proofs.YtbhoknnjilidnaaGreatDoor.Frame
end
