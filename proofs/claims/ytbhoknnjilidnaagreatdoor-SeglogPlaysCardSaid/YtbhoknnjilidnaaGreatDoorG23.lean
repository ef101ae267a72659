/- Contracts of disk's Create, Sync and Len. Contract of disk's Create. Contract of disk's Cut. MADE BY gen-more.py Contracts of disk's Delete and Rename. -/
import Derived.Test.YtbhoknnjilidnaaGreatDoorG22
import Derived.LaidEql
set_option linter.unusedVariables false
set_option maxHeartbeats 2000000
set_option maxRecDepth 100000
section
namespace Go.Proofs.YtbhoknnjilidnaaGreatDoor.Disk
open Go.Proofs.YtbhoknnjilidnaaGreatDoor.Mem
open Go.ChangeShapes Go.WideShapes Go.ChangeAt Go.RowKit
section
variable {w:World} {p:Nat} {S:St} {F:Nat→Prop}
theorem grow_refl (h:Has w p S F):Has w p S (grow F w w):=by
 obtain ⟨mb,cr,es,D,h1,h2,h3⟩:=h
 exact ⟨mb,cr,es,D,h1,fun k hk => .inl (h2 k hk),fun k hk=>hk.elim (h3 k) (fun h=>h.2)⟩
theorem step_files (S:St):(stepS S).files=S.files:=rfl
theorem sync_any (h:Has w p S F) (hu:used S≤1000000000) (s:ByteArray) (hs:s.size≤maxLen) :
  Calls Tryz.prog 87 #[.pointer (some ⟨p,0,none⟩),.string s] w fun e w'=>e = .returned (errV (sync S s.data.toList).1)∧Has w' p (sync S s.data.toList).2 (grow F w w')∧But F w w':=by
 have h0:=Lib.hid (grow_refl h)
 obtain ⟨mb,cr,es,D,hA,hF,hlt⟩:=h
 rcases hd:S.down with _|_
 ·rcases hl:look s.data.toList es with _|e
  ·have e1:sync S s.data.toList=(5,S):=by
    unfold sync
    rw [hd,hA.look,hl];rfl
   rw [e1]
   have hf:=Lib.hid (find_none hA hd s hs hl)
   clear hA e1 hF hlt hl hd hu
   go_enter Tryz.func87,Tryz.ntmps87
   go_wp2_with fail
   refine hf.out.mono ?_
   rintro e w' ⟨rfl,rfl⟩
   go_wp2
   go_ret
   exact ⟨rfl,h0.out,But.refl _ _⟩
  ·have hE0:=hA.ent (look_mem hl)
   rcases hn:now S with _|kp
   ·have e1:sync S s.data.toList=(0,{ stepS S with files:=upd s.data.toList (fun _=>(⟨e.bytes,e.bytes.length⟩:File)) S.files }):=by
     unfold sync
     rw [hd,hA.look,hl,effect_done hn,step_files,upd_const (a:=e.file) hA.good.apart (by rw [hA.look,hl];rfl)];rfl
    rw [e1]
    have hf:=Lib.hid (find_some hA hd s hs hl)
    have he:=Lib.hid (effect_yes hA hd hn)
    have HL:=Lib.hid hl
    have HF:=Lib.hid hF
    have HLT:=Lib.hid hlt
    have hfoot:∀ i,(i=p∨∃ a,cr=some a∧a.block=i)→F i:=fun i e=>hF i (e.elim .inl (fun h => .inr (.inr (.inl h))))
    have hfb:F e.fb:=hF _ (.inr (.inr (.inr ⟨_,look_mem hl,.inl rfl⟩)))
    have hFT:=Lib.hid hfoot
    clear hA e1 hF hlt hl hd hu hn hfoot
    go_enter Tryz.func87,Tryz.ntmps87
    go_wp2_with fail
    refine hf.out.mono ?_
    rintro x w' ⟨rfl,rfl⟩
    go_wp2_with fail
    refine he.out.mono ?_
    rintro x w1 ⟨rfl,hA,hb⟩
    have hE:=hA.ents _ (look_mem HL.out)
    obtain ⟨a,cap,hv,_⟩:=own_shape hE.2 hE0.2
    have k0:w1.cell? ⟨e.fb,0,none⟩=some (.slice a e.bytes.length cap):=by rw [← hv];exact hE.1.cell 0
    have k1:w1.cell? ⟨e.fb,1,none⟩=some (.int .i64 e.synced):=hE.1.cell 1
    have g1:=hE.1.frozen 1
    have hfin:Has (w1.setCell ⟨e.fb,1,none⟩ (.int .i64 (e.bytes.length:Int))) p { stepS S with files:=upd s.data.toList (fun _=>(⟨e.bytes,e.bytes.length⟩:File)) S.files } (grow F w (w1.setCell ⟨e.fb,1,none⟩ (.int .i64 (e.bytes.length:Int))))∧But F w (w1.setCell ⟨e.fb,1,none⟩ (.int .i64 (e.bytes.length:Int))):=by
     have hb2:But F w (w1.setCell ⟨e.fb,1,none⟩ (.int .i64 (e.bytes.length:Int))):=(hb.mono (T:=F) (fun i _ h=>hFT.out i h)).trans (but_set w1 e.fb 1 _) (fun i _ h=>h ▸ hfb)
     have hE2:EntAt (w1.setCell ⟨e.fb,1,none⟩ (.int .i64 (e.bytes.length:Int))) ⟨e.fb,e.v,e.bytes,e.bytes.length⟩ :=
      ⟨hE.1.set_ 1 _,ownsRow_but hE.2 (but_set w1 e.fb 1 _) (fun k hk h=>own_blk_ne hE.2 hE.1 (by decide) (h ▸ hk))⟩
     have hA2:=hA.upd_ (e':=⟨e.fb,e.v,e.bytes,e.bytes.length⟩) HL.out (but_set w1 e.fb 1 (.int .i64 (e.bytes.length:Int))) (fun k _ h => .inl h) hE2 rfl (fun k h => .inl h) (Nat.le_refl _) hE0.2
     refine ⟨hA2.hasGrow hb2 HLT.out (fun k hk=>?_),hb2⟩
     rcases foot_upd (w:=w1) (e':=⟨e.fb,e.v,e.bytes,e.bytes.length⟩) HL.out rfl (fun k h => .inl h) k hk with h|h
     ·exact .inl (HF.out k h)
     ·exact .inr (Nat.le_trans hb.size h)
    have HX:=Lib.hid hfin
    clear hfin hA hb hE hv hE0
    go_wp2
    go_ret
    exact ⟨rfl,HX.out⟩
   ·have e1:sync S s.data.toList=(15,crash kp S):=by
     unfold sync
     rw [hd,hA.look,hl,effect_crash hn];rfl
    rw [e1]
    have hf:=Lib.hid (find_some hA hd s hs hl)
    have he:=Lib.hid (effect_no hA hd hn hu)
    have HF:=Lib.hid hF
    have HLT:=Lib.hid hlt
    clear hA e1 hF hlt hl hd hu hn
    go_enter Tryz.func87,Tryz.ntmps87
    go_wp2_with fail
    refine hf.out.mono ?_
    rintro x w' ⟨rfl,rfl⟩
    go_wp2_with fail
    refine he.out.mono ?_
    rintro x w1 ⟨rfl,hA,hb⟩
    have HX:=Lib.hid (has_crash HF.out HLT.out hA hb)
    clear hA hb
    go_wp2
    go_ret
    exact ⟨rfl,HX.out⟩
 ·have e1:sync S s.data.toList=(15,S):=by
   unfold sync
   rw [hd];rfl
  rw [e1]
  have hf:=Lib.hid (find_down hA hd s)
  clear hA e1 hF hlt hd hu
  go_enter Tryz.func87,Tryz.ntmps87
  go_wp2_with fail
  refine hf.out.mono ?_
  rintro e w' ⟨rfl,rfl⟩
  go_wp2
  go_ret
  exact ⟨rfl,h0.out,But.refl _ _⟩
def lenOf (S:St) (n:Nm):Int × Int :=
 if S.down then (0,15) else match look n S.files with|none=>(0,5)|some f=>((f.bytes.length:Int),0)
theorem len_any (h:Has w p S F) (s:ByteArray) (hs:s.size≤maxLen) :
  Calls Tryz.prog 85 #[.pointer (some ⟨p,0,none⟩),.string s] w fun e w'=>e = .returned (.tuple #[.int .i64 (lenOf S s.data.toList).1,errV (lenOf S s.data.toList).2])∧w=w':=by
 obtain ⟨mb,cr,es,D,hA,hF,hlt⟩:=h
 rcases hd:S.down with _|_
 ·rcases hl:look s.data.toList es with _|e
  ·have e1:lenOf S s.data.toList=(0,5):=by
    unfold lenOf
    rw [hd,hA.look,hl];rfl
   rw [e1]
   have hf:=Lib.hid (find_none hA hd s hs hl)
   clear hA e1 hF hlt hl hd
   go_enter Tryz.func85,Tryz.ntmps85
   go_wp2_with fail
   refine hf.out.mono ?_
   rintro x w' ⟨rfl,rfl⟩
   go_wp2
   go_ret2
   exact ⟨rfl,rfl⟩
  ·have e1:lenOf S s.data.toList=((e.bytes.length:Int),0):=by
    unfold lenOf
    rw [hd,hA.look,hl];rfl
   rw [e1]
   have hf:=Lib.hid (find_some hA hd s hs hl)
   have hE:=hA.ents _ (look_mem hl)
   obtain ⟨a,cap,hv,_⟩:=own_shape hE.2 (hA.ent (look_mem hl)).2
   have k0:w.cell? ⟨e.fb,0,none⟩=some (.slice a e.bytes.length cap):=by rw [← hv];exact hE.1.cell 0
   clear hA e1 hF hlt hl hd hE hv
   go_enter Tryz.func85,Tryz.ntmps85
   go_wp2_with fail
   refine hf.out.mono ?_
   rintro x w' ⟨rfl,rfl⟩
   go_wp2
   go_ret2
   exact ⟨rfl,rfl⟩
 ·have e1:lenOf S s.data.toList=(0,15):=by
   unfold lenOf
   rw [hd];rfl
  rw [e1]
  have hf:=Lib.hid (find_down hA hd s)
  clear hA e1 hF hlt hd
  go_enter Tryz.func85,Tryz.ntmps85
  go_wp2_with fail
  refine hf.out.mono ?_
  rintro x w' ⟨rfl,rfl⟩
  go_wp2
  go_ret2
  exact ⟨rfl,rfl⟩
end
end Go.Proofs.YtbhoknnjilidnaaGreatDoor.Disk
end
section
namespace Go.Proofs.YtbhoknnjilidnaaGreatDoor.Disk
open Go.Proofs.YtbhoknnjilidnaaGreatDoor.Mem
open Go.ChangeShapes Go.WideShapes Go.ChangeAt Go.RowKit
theorem wpList_len_named {w:World} {ops:Array Oper} {rest:List Oper} {o:Oper} {a:Act} {Q:Exit→Act→World→Prop} (hg:o.guard=none) (m:Operand) (t:TypeId) (hop:o.op=Op.call { callee:=Callee.builtin Builtin.len,args := #[m],argTypes := #[t] })
  (k e:TypeId) (ht:Tryz.prog.underlying t=some (.map k e)) (R:Value→Option (DataW Nat × List MemPlace)) (b n:Nat) (D:DataW Nat) (hm:a.eval m = .map (some b)) (hown:w.ownsMap Tryz.prog k R b n D) (Z:Int) (hZ:Hid (Z=(Maps.size D:Int)))
  (hK:wpList Tryz.prog ops Q rest (a.put o.dst (.int .i64 Z)) w):wpList Tryz.prog ops Q (o :: rest) a w :=
 wpList_len_own w hg m t hop k e ht R b n D hm hown (by rw [← hZ.out];exact hK)
section
variable {w w':World} {p mb:Nat} {S:St} {cr:Option Addr} {es:List (Nm × Ent)} {D:DataW Nat} {F:Nat→Prop}
theorem at_created (h:At w p S mb cr es D) {n:Nm} (hn:look n es=none)
  (hm:w'.ownsMap Tryz.prog 9 ptrElem mb (es.length+1) (D.put (.string n) (.held w.heap.size))) (hg:(w.alloc (.cells #[.slice none 0 0,.int .i64 0] 83)).grownBy w' (some mb)) :
  At w' p { S with files:=ins n ⟨[],0⟩ S.files } mb cr (ins n ⟨w.heap.size,.slice none 0 0,[],0⟩ es) (D.put (.string n) (.held w.heap.size))∧But (fun k=>k=mb) w w':=by
 have hb:But (fun k=>k=mb) w w':=((But.refl _ w).alloc _).trans' ((But.of_grown hg).mono (fun i _ e=>by injection e))
 have hnew:Blk w' w.heap.size 83 #[.slice none 0 0,.int .i64 0]:=(Blk.new w _ _).but ((But.of_grown hg).mono (T:=fun k=>k=mb) (fun i _ e=>by injection e)) (fun e=>by have:=h.map.lt;omega)
 have hno:∀ {g:Nat} {t:TypeId} {cs:Array Value},Blk w g t cs→¬ g=mb:=fun {g t cs} hg e=>map_blk_ne h.map hg e.symm
 refine ⟨⟨h.blk.but hb (hno h.blk),?_,tells_put h.tells h.apart hn (h.map.tidy law) ⟨w.heap.size,.slice none 0 0,[],0⟩,fun hd=>(h.plan hd).but hb ?_,fun a ha=>Nat.lt_of_lt_of_le (h.crlt a ha) hb.size,?_,?_,?_,?_⟩,hb⟩
 ·rw [length_ins];exact hm
 ·intro a ha
  have hpl:=h.plan hd
  rcases hS:S.plan with _|⟨l,k⟩
  ·rw [hS] at hpl
   have:cr=none:=hpl
   rw [this] at ha;cases ha
  ·rw [hS] at hpl
   obtain ⟨b,hb2,hB⟩:=hpl
   rw [hb2] at ha
   injection ha with ha
   subst ha
   exact hno hB
 ·show mapv Ent.file (ins _ _ es)=ins n ⟨[],0⟩ S.files
  rw [mapv_ins,h.files];rfl
 ·intro x hx
  rcases mem_ins.1 hx with rfl|hx
  ·exact ⟨hnew,World.ownsRow_nil _ _ _ _⟩
  ·exact (h.ents x hx).but hb (hno (h.ents x hx).1) (fun k hk e=>map_own_ne h.map (h.ents x hx).2 (e ▸ hk))
 ·refine ((ins_perm _ _ es).pairwise_iff (fun {x y} h=>h.symm)).2 (List.pairwise_cons.2 ⟨fun y hy=>⟨?_,fun k hk=>by cases hk⟩,h.sep⟩)
  have:=(h.ents y hy).1.lt
  show w.heap.size≠y.2.fb
  omega
 ·have hn':look n S.files=none:=by rw [h.look,hn];rfl
  refine ⟨apart_ins h.good.apart hn',fun x hx=>?_,h.good.plan⟩
  rcases mem_ins.1 hx with rfl|hx
  ·exact ⟨Nat.le_refl _,bytes_nil⟩
  ·exact h.good.synced x hx
theorem foot_created {n:Nm} {b:Nat} (hb:w.heap.size≤b):∀ k,foot p mb cr (ins n ⟨b,.slice none 0 0,[],0⟩ es) k→foot p mb cr es k∨w.heap.size≤k:=by
 rintro k (h1|h1|h1|⟨x,hx,h1⟩)
 ·exact .inl (.inl h1)
 ·exact .inl (.inr (.inl h1))
 ·exact .inl (.inr (.inr (.inl h1)))
 ·rcases mem_ins.1 hx with rfl|hx
  ·rcases h1 with h1|h1
   ·exact .inr (by rw [h1];exact hb)
   ·cases h1
  ·exact .inl (.inr (.inr (.inr ⟨x,hx,h1⟩)))
theorem create_any (h:Has w p S F) (hu:used S≤1000000000) (s:ByteArray) (hs:s.size≤maxLen) :
  Calls Tryz.prog 59 #[.pointer (some ⟨p,0,none⟩),.string s] w fun e w'=>e = .returned (errV (create S s.data.toList).1)∧Has w' p (create S s.data.toList).2 (grow F w w')∧But F w w':=by
 have h0:=Lib.hid (grow_refl h)
 obtain ⟨mb,cr,es,D,hA,hF,hlt⟩:=h
 have c0:w.cell? ⟨p,0,none⟩=some (.map (some mb)):=hA.blk.cell 0
 have c4:w.cell? ⟨p,4,none⟩=some (.bool S.down):=hA.blk.cell 4
 rcases hd:S.down with _|_
 ·rw [hd] at c4
  rcases hl:look s.data.toList es with _|e
  ·have hr:=hA.missed hs hl (zeroF w)
   have hlf:look s.data.toList S.files=none:=by rw [hA.look,hl];rfl
   have hmap:=hA.map
   obtain ⟨Z,hZ0⟩:∃ Z:Int,Z=(Maps.size D:Int):=⟨_,rfl⟩
   have hZ:=Lib.hid hZ0
   clear hZ0
   by_cases hsz:1000≤Z
   ·have e1:create S s.data.toList=(12,S):=by
     unfold create
     rw [hd,hlf]
     simp only [Bool.false_eq_true,if_false,Option.isSome_none]
     rw [if_pos (by rw [← hA.files,length_mapv,← hA.tells.size];have:=hZ.out;omega)]
    rw [e1]
    clear hA e1 hF hlt hl hd hu hlf
    go_enter Tryz.func59,Tryz.ntmps59
    go_wp2_with (first|(at_len;refine wpList_len_named rfl _ 62 rfl 9 80 Tryz.underlying62 _ mb _ D rfl hmap Z hZ ?_))
    go_ret
    exact ⟨rfl,h0.out,But.refl _ _⟩
   ·have e0:create S s.data.toList=effect S fun T=>{ T with files:=ins s.data.toList ⟨[],0⟩ T.files }:=by
     unfold create
     rw [hd,hlf]
     simp only [Bool.false_eq_true,if_false,Option.isSome_none]
     rw [if_neg (by rw [← hA.files,length_mapv,← hA.tells.size];have:=hZ.out;omega)]
    rw [e0]
    clear e0
    have hsz':Z < 1000:=by omega
    rcases hn:now S with _|kp
    ·rw [effect_done hn]
     have he:=Lib.hid (effect_yes hA hd hn)
     have HL:=Lib.hid hl
     have HF:=Lib.hid hF
     have HLT:=Lib.hid hlt
     have hfoot:∀ i,(i=p∨∃ a,cr=some a∧a.block=i)→F i:=fun i e=>hF i (e.elim .inl (fun h => .inr (.inr (.inl h))))
     have hfm:F mb:=hF _ (.inr (.inl rfl))
     have hFT:=Lib.hid hfoot
     have hlen:es.length < 1000:=by rw [← hA.tells.size];have:=hZ.out;omega
     have HLEN:=Lib.hid hlen
     clear hlen
     clear hA hF hlt hl hd hu hn hfoot hlf hsz
     go_enter Tryz.func59,Tryz.ntmps59
     go_wp2_with (first|(at_len;refine wpList_len_named rfl _ 62 rfl 9 80 Tryz.underlying62 _ mb _ D rfl hmap Z hZ ?_)|fail)
     refine he.out.mono ?_
     rintro x w1 ⟨rfl,hA,hb⟩
     have hm1:=hA.map
     have c0':w1.cell? ⟨p,0,none⟩=some (.map (some mb)):=hA.blk.cell 0
     have hplt:=hA.blk.lt
     clear hmap c0 c4 hr
     go_wp2_with (first|(at_mapUpdate;refine wpList_mapUpdate_own _ rfl _ _ _ 62 rfl 9 80 law Tryz.underlying62 _ mb es.length _ rfl (hm1.alloc _) (by have:=HLEN.out;unfold maxLen;omega) _ _ _ rfl rfl (WideMaps.keyOf_string_mk Tryz.underlying9 hs) (.held w1.heap.size) [] rfl ?_;intro w2 hm2 hg2))
     go_ret
     obtain ⟨hA2,hb2⟩:=at_created hA HL.out hm2 hg2
     have hb3:But F w w2:=(hb.mono (T:=F) (fun i _ h=>hFT.out i h)).trans hb2 (fun i _ h=>h ▸ hfm)
     refine ⟨rfl,hA2.hasGrow hb3 HLT.out (fun k hk=>?_),hb3⟩
     rcases foot_created (w:=w) hb.size k hk with h|h
     ·exact .inl (HF.out k h)
     ·exact .inr h
    ·rw [effect_crash hn]
     have he:=Lib.hid (effect_no hA hd hn hu)
     have HF:=Lib.hid hF
     have HLT:=Lib.hid hlt
     clear hA hF hlt hl hd hu hn hlf hsz
     go_enter Tryz.func59,Tryz.ntmps59
     go_wp2_with (first|(at_len;refine wpList_len_named rfl _ 62 rfl 9 80 Tryz.underlying62 _ mb _ D rfl hmap Z hZ ?_)|fail)
     refine he.out.mono ?_
     rintro x w1 ⟨rfl,hA,hb⟩
     have HX:=Lib.hid (has_crash HF.out HLT.out hA hb)
     clear hA hb
     go_wp2
     go_ret
     exact ⟨rfl,HX.out⟩
  ·have e1:create S s.data.toList=(6,S):=by
    unfold create
    rw [hd,hA.look,hl];rfl
   rw [e1]
   have hr:=hA.found hs hl (zeroF w)
   clear hA e1 hF hlt hl hd hu
   go_enter Tryz.func59,Tryz.ntmps59
   go_wp2
   go_ret
   exact ⟨rfl,h0.out,But.refl _ _⟩
 ·have e1:create S s.data.toList=(15,S):=by
   unfold create
   rw [hd];rfl
  rw [e1]
  rw [hd] at c4
  clear hA e1 hF hlt hd hu
  go_enter Tryz.func59,Tryz.ntmps59
  go_wp2
  go_ret
  exact ⟨rfl,h0.out,But.refl _ _⟩
end
end Go.Proofs.YtbhoknnjilidnaaGreatDoor.Disk
end
section
namespace Go.Proofs.YtbhoknnjilidnaaGreatDoor.Disk
open Go.Proofs.YtbhoknnjilidnaaGreatDoor.Mem
open Go.ChangeShapes Go.WideShapes Go.ChangeAt Go.RowKit
section
variable {w:World} {p mb:Nat} {S:St} {cr:Option Addr} {es:List (Nm × Ent)} {D:DataW Nat} {F:Nat→Prop}
theorem cutE_at {fb k s0:Nat} {v:Value} {bytes:List Int} (hE:EntAt w ⟨fb,v,bytes,s0⟩) (hk:k≤bytes.length) (m:Nat) :
  EntAt ((w.setCell ⟨fb,0,none⟩ (cutV k v)).setCell ⟨fb,1,none⟩ (.int .i64 (m:Int))) ⟨fb,cutV k v,bytes.take k,m⟩:=by
 have hb:But (fun i=>i=fb) w ((w.setCell ⟨fb,0,none⟩ (cutV k v)).setCell ⟨fb,1,none⟩ (.int .i64 (m:Int))):=(but_set _ _ _ _).trans' (but_set _ _ _ _)
 refine ⟨(hE.1.set_ 0 _).set_ 1 _,?_⟩
 have:=own_cut (ownsRow_but hE.2 hb (fun i hi e=>own_blk_ne hE.2 hE.1 (by decide) (e ▸ hi))) hk
 rw [List.length_take,Nat.min_eq_left hk]
 exact this
theorem cut_arg (hA:At w p S mb cr es D) (hd:S.down=false) (s:ByteArray) (hs:s.size≤maxLen) {e:Ent} (hl:look s.data.toList es=some e) (k:Int) (hk:k < 0∨(e.bytes.length:Int) < k) :
  Calls Tryz.prog 86 #[.pointer (some ⟨p,0,none⟩),.string s,.int .i64 k] w fun x w'=>x = .returned (errV 1)∧w=w':=by
 have hf:=Lib.hid (find_some hA hd s hs hl)
 have hE:=hA.ents _ (look_mem hl)
 obtain ⟨a,cap,hv,_⟩:=own_shape hE.2 (hA.ent (look_mem hl)).2
 have k0:w.cell? ⟨e.fb,0,none⟩=some (.slice a e.bytes.length cap):=by rw [← hv];exact hE.1.cell 0
 obtain ⟨L,hL⟩:∃ L:Int,L=(e.bytes.length:Int):=⟨_,rfl⟩
 rw [← hL] at hk
 clear hA hl hd hE hv
 by_cases t1:k < 0
 ·have t1':decide (k < 0)=true:=by simpa using t1
  clear hk hL
  go_enter Tryz.func86,Tryz.ntmps86
  go_wp2_with fail
  refine hf.out.mono ?_
  rintro x w' ⟨rfl,rfl⟩
  go_wp2
  go_ret
  exact ⟨rfl,rfl⟩
 ·have t1':decide (k < 0)=false:=by simpa using t1
  have t2:decide ((e.bytes.length:Int) < k)=true:=by rw [← hL];simp;omega
  clear hk t1 hL
  go_enter Tryz.func86,Tryz.ntmps86
  go_wp2_with fail
  refine hf.out.mono ?_
  rintro x w' ⟨rfl,rfl⟩
  go_wp2
  go_ret
  exact ⟨rfl,rfl⟩
theorem cut_crash (hA:At w p S mb cr es D) (hd:S.down=false) (s:ByteArray) (hs:s.size≤maxLen) {e:Ent} (hl:look s.data.toList es=some e) (k:Nat) (hk:k≤e.bytes.length) (hu:used S≤1000000000) {kp:Int} (hn:now S=some kp) :
  Calls Tryz.prog 86 #[.pointer (some ⟨p,0,none⟩),.string s,.int .i64 (k:Int)] w fun x w'=>x = .returned (errV 15)∧At w' p (crash kp S) mb cr (mapv (truncE kp) es) D∧But (foot p mb cr es) w w':=by
 have hf:=Lib.hid (find_some hA hd s hs hl)
 have he:=Lib.hid (effect_no hA hd hn hu)
 have hE:=hA.ents _ (look_mem hl)
 obtain ⟨a,cap,hv,_⟩:=own_shape hE.2 (hA.ent (look_mem hl)).2
 have k0:w.cell? ⟨e.fb,0,none⟩=some (.slice a e.bytes.length cap):=by rw [← hv];exact hE.1.cell 0
 have t1:decide ((k:Int) < 0)=false:=by simp
 have t2:decide (e.bytes.length < k)=false:=by simpa using hk
 clear hA hl hd hE hv hn hu hk
 go_enter Tryz.func86,Tryz.ntmps86
 go_wp2_with fail
 refine hf.out.mono ?_
 rintro x w' ⟨rfl,rfl⟩
 go_wp2_with fail
 refine he.out.mono ?_
 rintro x w1 ⟨rfl,hA,hb⟩
 have HA:=Lib.hid hA
 have HB:=Lib.hid hb
 clear hA hb
 go_wp2
 go_ret
 exact ⟨rfl,HA.out,HB.out⟩
theorem cut_yes (hA:At w p S mb cr es D) (hF:∀ k,foot p mb cr es k→F k) (hlt:∀ k,F k→k < w.heap.size) (hd:S.down=false) (s:ByteArray) (hs:s.size≤maxLen) {e:Ent} (hl:look s.data.toList es=some e) (k:Nat) (hk:k≤e.bytes.length) (hu:e.bytes.length≤1000000000) (hn:now S=none) :
  Calls Tryz.prog 86 #[.pointer (some ⟨p,0,none⟩),.string s,.int .i64 (k:Int)] w fun x w'=>x = .returned (errV 0)∧Has w' p { stepS S with files:=upd s.data.toList (fun _=>(⟨e.bytes.take k,min e.synced k⟩:File)) S.files } (grow F w w')∧But F w w':=by
 have hf:=Lib.hid (find_some hA hd s hs hl)
 have he:=Lib.hid (effect_yes hA hd hn)
 have hE:=hA.ents _ (look_mem hl)
 have hE0:=hA.ent (look_mem hl)
 have HL:=Lib.hid hl
 have HF:=Lib.hid hF
 have HLT:=Lib.hid hlt
 have hfoot:∀ i,(i=p∨∃ a,cr=some a∧a.block=i)→F i:=fun i e=>hF i (e.elim .inl (fun h => .inr (.inr (.inl h))))
 have hFT:=Lib.hid hfoot
 have hfb:F e.fb:=hF _ (.inr (.inr (.inr ⟨_,look_mem hl,.inl rfl⟩)))
 obtain ⟨a,cap,hv,_,_,hsh⟩:=own_shape hE.2 hE0.2
 simp only at hsh
 obtain ⟨S2,hS2⟩:∃ S2:St,S2={ stepS S with files:=upd s.data.toList (fun _=>(⟨e.bytes.take k,min e.synced k⟩:File)) S.files }:=⟨_,rfl⟩
 rw [← hS2]
 have k0:w.cell? ⟨e.fb,0,none⟩=some (.slice a e.bytes.length cap):=by rw [← hv];exact hE.1.cell 0
 have HV:=Lib.hid hv
 have t1:decide ((k:Int) < 0)=false:=by simp
 have t2:decide (e.bytes.length < k)=false:=by simpa using hk
 have hfin:∀ w1 (M:Int),At w1 p (stepS S) mb cr es D→But (fun k=>k=p∨∃ a,cr=some a∧a.block=k) w w1→M=((min e.synced k:Nat):Int)→Has ((w1.setCell ⟨e.fb,0,none⟩ (.slice a k cap)).setCell ⟨e.fb,1,none⟩ (.int .i64 M)) p S2 (grow F w ((w1.setCell ⟨e.fb,0,none⟩ (.slice a k cap)).setCell ⟨e.fb,1,none⟩ (.int .i64 M)))∧But F w ((w1.setCell ⟨e.fb,0,none⟩ (.slice a k cap)).setCell ⟨e.fb,1,none⟩ (.int .i64 M)):=by
  intro w1 M hA1 hb1 hm
  subst hm
  rw [hS2]
  have hE1:=hA1.ents _ (look_mem HL.out)
  have hcv:(Value.slice a k cap)=cutV k e.v:=by rw [HV.out];rfl
  rw [hcv]
  have hb2:But (fun i=>i=e.fb) w1 ((w1.setCell ⟨e.fb,0,none⟩ (cutV k e.v)).setCell ⟨e.fb,1,none⟩ (.int .i64 ((min e.synced k:Nat):Int))):=(but_set _ _ _ _).trans' (but_set _ _ _ _)
  have hE2:=cutE_at (fb:=e.fb) (v:=e.v) (bytes:=e.bytes) (s0:=e.synced) hE1 hk (min e.synced k)
  have hv3:∀ i,(cutV k e.v).ownBlock=some i→e.v.ownBlock=some i∨w1.heap.size≤i:=fun i hi => .inl ((cutV_own _ _).symm.trans hi)
  have hA3:=hA1.upd_ (e':=⟨e.fb,cutV k e.v,e.bytes.take k,min e.synced k⟩) HL.out hb2 (fun i _ h => .inl h) hE2 rfl hv3 (by show min e.synced k≤(e.bytes.take k).length;rw [List.length_take];omega) (bytes_take hE0.2 k)
  have hb4:But F w ((w1.setCell ⟨e.fb,0,none⟩ (cutV k e.v)).setCell ⟨e.fb,1,none⟩ (.int .i64 ((min e.synced k:Nat):Int))):=(hb1.mono (T:=F) (fun i _ h=>hFT.out i h)).trans hb2 (fun i _ h=>h ▸ hfb)
  refine ⟨hA3.hasGrow hb4 HLT.out (fun i hi=>?_),hb4⟩
  rcases foot_upd (w:=w1) (e':=⟨e.fb,cutV k e.v,e.bytes.take k,min e.synced k⟩) HL.out rfl hv3 i hi with h|h
  ·exact .inl (HF.out i h)
  ·exact .inr (Nat.le_trans hb1.size h)
 have HX:=Lib.hid hfin
 have HSY:Hid (e.synced≤e.bytes.length):=Lib.hid hE0.1
 have hkc:k≤cap:=by
  rcases hsh with ⟨_,h2,h3⟩|⟨_,_,_,_,h4,_⟩ <;> omega
 have hcm:cap≤9223372036854775807:=by
  rcases hsh with ⟨_,h2,h3⟩|⟨_,_,_,_,_,h4⟩
  ·omega
  ·simpa [maxLen] using h4
 have u1:(k:Int)≤(cap:Int):=by omega
 have u2:(cap:Int)≤9223372036854775807:=by omega
 obtain ⟨A0,hA0⟩:∃ A0,A0=a:=⟨_,rfl⟩
 clear hA hl hd hE hv hn hu hF hlt hfoot hfin hE0 hA0 hcm hkc hS2
 go_enter Tryz.func86,Tryz.ntmps86
 go_wp2_with fail
 refine hf.out.mono ?_
 rintro x w' ⟨rfl,rfl⟩
 go_wp2_with fail
 refine he.out.mono ?_
 rintro x w1 ⟨rfl,hA1,hb1⟩
 have hE1:=hA1.ents _ (look_mem HL.out)
 have j0:w1.cell? ⟨e.fb,0,none⟩=some (.slice a e.bytes.length cap):=by rw [← HV.out];exact hE1.1.cell 0
 have j1:w1.cell? ⟨e.fb,1,none⟩=some (.int .i64 e.synced):=hE1.1.cell 1
 have g0:=hE1.1.frozen 0
 have g1:=hE1.1.frozen 1
 have HA1:=Lib.hid hA1
 have HB1:=Lib.hid hb1
 clear hA1 hb1 hE1 k0
 rcases hsh with ⟨rfl,hc0,hl0⟩|⟨g,rfl,_,_,hlc,_⟩
 ·have hk0:k=0:=by omega
  have HL0:=Lib.hid hl0
  subst hk0
  subst hc0
  clear hk
  rw [hl0] at j0
  clear hl0
  have q':e.synced=0:=by have:=HSY.out;have:=HL0.out;omega
  rw [q'] at j1
  clear q'
  go_wp2
  go_ret
  exact ⟨rfl,HX.out w1 0 HA1.out HB1.out (by simp)⟩
 ·by_cases q:k < e.synced
  ·have q':decide (k < e.synced)=true:=by simpa using q
   have HQ:=Lib.hid q
   clear q hk hlc
   go_wp2
   go_ret
   exact ⟨rfl,HX.out w1 k HA1.out HB1.out (by have:=HQ.out;omega)⟩
  ·have q':decide (k < e.synced)=false:=by simpa using q
   have HQ:=Lib.hid q
   clear q hk hlc
   go_wp2
   go_ret
   exact ⟨rfl,HX.out w1 e.synced HA1.out HB1.out (by have:=HQ.out;omega)⟩
theorem cut_any (h:Has w p S F) (hu:used S≤1000000000) (s:ByteArray) (hs:s.size≤maxLen) (k:Int) :
  Calls Tryz.prog 86 #[.pointer (some ⟨p,0,none⟩),.string s,.int .i64 k] w fun e w'=>e = .returned (errV (cut S s.data.toList k).1)∧Has w' p (cut S s.data.toList k).2 (grow F w w')∧But F w w':=by
 have h0:=Lib.hid (grow_refl h)
 obtain ⟨mb,cr,es,D,hA,hF,hlt⟩:=h
 rcases hd:S.down with _|_
 ·rcases hl:look s.data.toList es with _|e
  ·have e1:cut S s.data.toList k=(5,S):=by
    unfold cut
    rw [hd,hA.look,hl];rfl
   rw [e1]
   have hf:=Lib.hid (find_none hA hd s hs hl)
   clear hA e1 hF hlt hd hu hl
   go_enter Tryz.func86,Tryz.ntmps86
   go_wp2_with fail
   refine hf.out.mono ?_
   rintro x w' ⟨rfl,rfl⟩
   go_wp2
   go_ret
   exact ⟨rfl,h0.out,But.refl _ _⟩
  ·have hlf:look s.data.toList S.files=some e.file:=by rw [hA.look,hl];rfl
   have hle:e.bytes.length≤1000000000:=by
    have:=total_le_of (f:=fun e:Ent=>e.bytes.length) (look_mem hl)
    rw [used_eq hA] at this
    exact Nat.le_trans this hu
   by_cases hb:k < 0∨(e.bytes.length:Int) < k
   ·have e1:cut S s.data.toList k=(1,S):=by
     unfold cut
     rw [hd,hlf,if_neg (by simp)]
     exact if_pos hb
    rw [e1]
    refine (cut_arg hA hd s hs hl k hb).mono ?_
    rintro x w' ⟨rfl,rfl⟩
    exact ⟨rfl,h0.out,But.refl _ _⟩
   ·have e0:cut S s.data.toList k=effect S fun T=>{ T with files:=upd s.data.toList (fun f=>⟨f.bytes.take k.toNat,min f.synced k.toNat⟩) T.files }:=by
     unfold cut
     rw [hd,hlf,if_neg (by simp)]
     exact if_neg hb
    rw [e0]
    obtain ⟨j,rfl⟩:=Int.eq_ofNat_of_zero_le (show 0≤k by omega)
    rw [Int.toNat_natCast]
    rcases hn:now S with _|kp
    ·rw [effect_done hn,step_files,upd_const (a:=e.file) hA.good.apart hlf]
     exact cut_yes hA hF hlt hd s hs hl j (by omega) hle hn
    ·rw [effect_crash hn]
     refine (cut_crash hA hd s hs hl j (by omega) hu hn).mono ?_
     rintro x w' ⟨rfl,hA2,hb⟩
     exact ⟨rfl,has_crash hF hlt hA2 hb⟩
 ·have e1:cut S s.data.toList k=(15,S):=by
   unfold cut
   rw [hd];rfl
  rw [e1]
  have hf:=Lib.hid (find_down hA hd s)
  clear hA e1 hF hlt hd hu
  go_enter Tryz.func86,Tryz.ntmps86
  go_wp2_with fail
  refine hf.out.mono ?_
  rintro x w' ⟨rfl,rfl⟩
  go_wp2
  go_ret
  exact ⟨rfl,h0.out,But.refl _ _⟩
end
end Go.Proofs.YtbhoknnjilidnaaGreatDoor.Disk
end
section
namespace Go.Proofs.YtbhoknnjilidnaaGreatDoor.Disk
open Go.Proofs.YtbhoknnjilidnaaGreatDoor.Mem
open Go.ChangeShapes Go.WideShapes Go.ChangeAt Go.RowKit
section
variable {w w':World} {p mb:Nat} {S:St} {cr:Option Addr} {es:List (Nm × Ent)} {D:DataW Nat} {F:Nat→Prop} {n m:Nm}
theorem tells_del (h:Tells D es) (ha:Apart es) (ht:Maps.Tidy D):Tells (D.del (.string n)) (del n es):=by
 refine ⟨fun x=>?_,fun x e hx z=>?_,?_⟩
 ·by_cases hx:x=n
  ·subst hx
   rw [Maps.has_del_same,look_del_same];rfl
  ·rw [Maps.has_del_other (by simpa using hx),look_del_other hx,h.has]
 ·by_cases hx2:x=n
  ·subst hx2
   rw [look_del_same] at hx;cases hx
  ·rw [look_del_other hx2] at hx
   rw [Maps.atKey_del_other (by simpa using hx2)]
   exact h.key _ _ hx z
 ·have h1:=Maps.size_del (k := .string n) ht
  rw [h.has,h.size] at h1
  rcases hl:look n es with _|e
  ·rw [hl] at h1
   rw [del_none hl]
   simpa using h1
  ·rw [hl] at h1
   have h2:=length_del ha hl
   simp at h1
   omega
theorem tells_over (h:Tells D es) (ha:Apart es) (ht:Maps.Tidy D) (e:Ent):Tells (D.put (.string n) (.held e.fb)) (ins n e (del n es)):=by
 have ha2:=apart_del ha n
 have hn:look n (del n es)=none:=look_del_same
 refine ⟨fun x=>?_,fun x e2 hx z=>?_,?_⟩
 ·by_cases hx:x=n
  ·subst hx
   rw [Maps.has_put_same (k := .string x) ht.isMap trivial,look_ins_same ha2 hn];rfl
  ·rw [Maps.has_put_other (by simpa using hx),look_ins_other ha2 hn hx,look_del_other hx,h.has]
 ·by_cases hx2:x=n
  ·subst hx2
   rw [look_ins_same ha2 hn] at hx
   injection hx with hx
   subst hx
   exact Maps.atKey_put_same (k := .string x) ht.isMap trivial _ _
  ·rw [look_ins_other ha2 hn hx2,look_del_other hx2] at hx
   rw [Maps.atKey_put_other (by simpa using hx2)]
   exact h.key _ _ hx z
 ·rw [Maps.size_put ht,h.has,length_ins,h.size]
  rcases hl:look n es with _|e2
  ·rw [del_none hl];rfl
  ·have:=length_del ha hl
   simp
   omega
theorem sep_del (h:Sep es) (n:Nm):Sep (del n es):=h.filter _
theorem good_del (h:Good S) (n:Nm):Good { S with files:=del n S.files }:=⟨apart_del h.apart n,fun x hx=>h.synced x (mem_del.1 hx).1,h.plan⟩
theorem foot_del:∀ k,foot p mb cr (del n es) k→foot p mb cr es k:=by
 rintro k (h1|h1|h1|⟨x,hx,h1⟩)
 ·exact .inl h1
 ·exact .inr (.inl h1)
 ·exact .inr (.inr (.inl h1))
 ·exact .inr (.inr (.inr ⟨x,(mem_del.1 hx).1,h1⟩))
theorem At.remap {es':List (Nm × Ent)} {D':DataW Nat} {fs:List (Nm × File)} (h:At w p S mb cr es D) (hb:But (fun k=>k=mb) w w') (hm:w'.ownsMap Tryz.prog 9 ptrElem mb es'.length D') (ht:Tells D' es') (hf:mapv Ent.file es'=fs) (hE:∀ x ∈ es',EntAt w x.2) (hs:Sep es') (hg:Good { S with files:=fs }) :
  At w' p { S with files:=fs } mb cr es' D':=by
 have hno:∀ {g:Nat} {t:TypeId} {cs:Array Value},Blk w g t cs→¬ g=mb:=fun {g t cs} hg e=>map_blk_ne h.map hg e.symm
 refine ⟨h.blk.but hb (hno h.blk),hm,ht,fun hd=>(h.plan hd).but hb ?_,fun a ha=>Nat.lt_of_lt_of_le (h.crlt a ha) hb.size,hf,?_,hs,hg⟩
 ·intro a ha
  have hpl:=h.plan hd
  rcases hS:S.plan with _|⟨l,k⟩
  ·rw [hS] at hpl
   have:cr=none:=hpl
   rw [this] at ha;cases ha
  ·rw [hS] at hpl
   obtain ⟨b,hb2,hB⟩:=hpl
   rw [hb2] at ha
   injection ha with ha
   subst ha
   exact hno hB
 ·intro x hx
  exact (hE x hx).but hb (hno (hE x hx).1) (fun k hk e=>map_own_ne h.map (hE x hx).2 (e ▸ hk))
theorem but_turned {b:Nat} (h:w.mapTurned w' b):But (fun k=>k=b) w w':=(But.of_grown h.grown).mono (fun i _ e=>by injection e)
theorem at_deleted (h:At w p S mb cr es D) {e:Ent} (hl:look n es=some e) (hm:w'.ownsMap Tryz.prog 9 ptrElem mb es.length (D.del (.string n))) (ht:w.mapTurned w' mb) :
  At w' p { S with files:=del n S.files } mb cr (del n es) (D.del (.string n)):=by
 refine h.remap (but_turned ht) ?_ (tells_del h.tells h.apart (h.map.tidy law)) (by rw [mapv_del,h.files]) (fun x hx=>h.ents x (mem_del.1 hx).1) (sep_del h.sep n) (good_del h.good n)
 have:=ownsMap_tight hm
 rw [(tells_del h.tells h.apart (h.map.tidy law)).size] at this
 exact this
theorem at_moved (h:At w p S mb cr es D) {e:Ent} (hE:EntAt w e) (hsy:e.synced≤e.bytes.length∧Bytes e.bytes) (hsep:∀ x ∈ es,Two e x.2) (hm:w'.ownsMap Tryz.prog 9 ptrElem mb (es.length+1) (D.put (.string m) (.held e.fb))) (hg:w.grownBy w' (some mb)) :
  At w' p { S with files:=ins m e.file (del m S.files) } mb cr (ins m e (del m es)) (D.put (.string m) (.held e.fb))∧But (fun k=>k=mb) w w':=by
 have hb:But (fun k=>k=mb) w w':=(But.of_grown hg).mono (fun i _ e=>by injection e)
 have htl:=tells_over (n:=m) h.tells h.apart (h.map.tidy law) e
 refine ⟨h.remap hb ?_ htl (by rw [mapv_ins,mapv_del,h.files]) ?_ ?_ ?_,hb⟩
 ·have:=ownsMap_tight hm
  rw [htl.size] at this
  exact this
 ·intro x hx
  rcases mem_ins.1 hx with rfl|hx
  ·exact hE
  ·exact h.ents x (mem_del.1 hx).1
 ·exact ((ins_perm _ _ _).pairwise_iff (fun {x y} h=>h.symm)).2 (List.pairwise_cons.2 ⟨fun y hy=>hsep y (mem_del.1 hy).1,sep_del h.sep m⟩)
 ·refine ⟨apart_ins (apart_del h.good.apart m) look_del_same,fun x hx=>?_,h.good.plan⟩
  rcases mem_ins.1 hx with rfl|hx
  ·exact hsy
  ·exact h.good.synced x (mem_del.1 hx).1
end
end Go.Proofs.YtbhoknnjilidnaaGreatDoor.Disk
end
