/- Contracts of disk's Delete and Rename. MADE BY gen-more.py -/
import Derived.Test.YtbhoknnjilidnaaGreatDoorG23
set_option linter.unusedVariables false
set_option maxHeartbeats 1000000
set_option maxRecDepth 100000
namespace Go.Proofs.YtbhoknnjilidnaaGreatDoor.Disk
open Go.Proofs.YtbhoknnjilidnaaGreatDoor.Mem
open Go.ChangeShapes Go.WideShapes Go.ChangeAt Go.RowKit
section
variable {w:World} {p:Nat} {S:St} {F:Nat→Prop}
theorem delete_any (h:Has w p S F) (hu:used S≤1000000000) (s:ByteArray) (hs:s.size≤maxLen)  :
  Calls Tryz.prog 60 #[.pointer (some ⟨p,0,none⟩),.string s] w fun e w'=>e = .returned (errV (delete S s.data.toList).1)∧Has w' p (delete S s.data.toList).2 (grow F w w')∧But F w w':=by
 have h0:=Lib.hid (grow_refl h)
 obtain ⟨mb,cr,es,D,hA,hF,hlt⟩:=h
 rcases hd:S.down with _|_
 ·rcases hl:look s.data.toList es with _|e
  ·have e1:delete S s.data.toList=(5,S):=by
    unfold delete
    rw [hd,hA.look,hl];rfl
   rw [e1]
   have hf:=Lib.hid (find_none hA hd s hs hl)
   clear hA e1 hF hlt hd hu hl
   go_enter Tryz.func60,Tryz.ntmps60
   go_wp2_with fail
   refine hf.out.mono ?_
   rintro x w' ⟨rfl,rfl⟩
   go_wp2
   go_ret
   exact ⟨rfl,h0.out,But.refl _ _⟩
  ·have hlf:look s.data.toList S.files=some e.file:=by rw [hA.look,hl];rfl
   have hE0:=hA.ent (look_mem hl)
   rcases hn:now S with _|kp
   ·have e1:delete S s.data.toList=(0,{ stepS S with files:=del s.data.toList S.files }):=by
     unfold delete
     rw [hd,hlf,effect_done hn]
     rfl
    rw [e1]
    have hf:=Lib.hid (find_some hA hd s hs hl)
    have he:=Lib.hid (effect_yes hA hd hn)
    have HL:=Lib.hid hl
    have HF:=Lib.hid hF
    have HLT:=Lib.hid hlt
    have HE0:=Lib.hid hE0
    have hfoot:∀ i,(i=p∨∃ a,cr=some a∧a.block=i)→F i:=fun i e=>hF i (e.elim .inl (fun h => .inr (.inr (.inl h))))
    have hfb:F e.fb:=hF _ (.inr (.inr (.inr ⟨_,look_mem hl,.inl rfl⟩)))
    have hfm:F mb:=hF _ (.inr (.inl rfl))
    have hFT:=Lib.hid hfoot
    have hap:=Lib.hid hA.apart
    clear hA e1 hF hlt hl hd hu hn hfoot hE0 hlf
    go_enter Tryz.func60,Tryz.ntmps60
    go_wp2_with fail
    refine hf.out.mono ?_
    rintro x w' ⟨rfl,rfl⟩
    go_wp2_with fail
    refine he.out.mono ?_
    rintro x w1 ⟨rfl,hA,hb⟩
    have hbF:=Lib.hid (hb.mono (T:=F) (fun i _ h=>hFT.out i h))
    clear hb
    have hm1:=hA.map
    have c0:w1.cell? ⟨p,0,none⟩=some (.map (some mb)):=hA.blk.cell 0
    have HA:=Lib.hid hA
    clear hA
    go_wp2_with (first|(at_delete;refine wpList_delete_own _ rfl _ _ 62 9 rfl 80 law Tryz.underlying62 _ mb _ _ rfl hm1 _ _ rfl (WideMaps.keyOf_string_mk Tryz.underlying9 hs) ?_;intro w2 hm2 ht2))
    go_ret
    have hA2:=at_deleted HA.out HL.out hm2 ht2
    have hb3:But F w w2:=hbF.out.trans (but_turned ht2) (fun i _ h=>h ▸ hfm)
    exact ⟨rfl,hA2.hasGrow hb3 HLT.out (fun k hk => .inl (HF.out k (foot_del k hk))),hb3⟩
   ·have e1:delete S s.data.toList=(15,crash kp S):=by
     unfold delete
     rw [hd,hlf,effect_crash hn];rfl
    rw [e1]
    have hf:=Lib.hid (find_some hA hd s hs hl)
    have he:=Lib.hid (effect_no hA hd hn hu)
    have HF:=Lib.hid hF
    have HLT:=Lib.hid hlt
    clear hA e1 hF hlt hl hd hu hn hlf hE0
    go_enter Tryz.func60,Tryz.ntmps60
    go_wp2_with fail
    refine hf.out.mono ?_
    rintro x w' ⟨rfl,rfl⟩
    go_wp2_with fail
    refine he.out.mono ?_
    rintro x w1 ⟨rfl,hA,hb⟩
    have HX:=Lib.hid (has_crash HF.out HLT.out hA hb)
    clear hA hb
    go_wp2
    go_ret
    exact ⟨rfl,HX.out⟩
 ·have e1:delete S s.data.toList=(15,S):=by
   unfold delete
   rw [hd];rfl
  rw [e1]
  have hf:=Lib.hid (find_down hA hd s)
  clear hA e1 hF hlt hd hu
  go_enter Tryz.func60,Tryz.ntmps60
  go_wp2_with fail
  refine hf.out.mono ?_
  rintro x w' ⟨rfl,rfl⟩
  go_wp2
  go_ret
  exact ⟨rfl,h0.out,But.refl _ _⟩
theorem rename_any (h:Has w p S F) (hu:used S≤1000000000) (s:ByteArray) (hs:s.size≤maxLen) (t:ByteArray) (ht:t.size≤maxLen) (hlen:S.files.length≤1000000) :
  Calls Tryz.prog 82 #[.pointer (some ⟨p,0,none⟩),.string s,.string t] w fun e w'=>e = .returned (errV (rename S s.data.toList t.data.toList).1)∧Has w' p (rename S s.data.toList t.data.toList).2 (grow F w w')∧But F w w':=by
 have h0:=Lib.hid (grow_refl h)
 obtain ⟨mb,cr,es,D,hA,hF,hlt⟩:=h
 rcases hd:S.down with _|_
 ·rcases hl:look s.data.toList es with _|e
  ·have e1:rename S s.data.toList t.data.toList=(5,S):=by
    unfold rename
    rw [hd,hA.look,hl];rfl
   rw [e1]
   have hf:=Lib.hid (find_none hA hd s hs hl)
   clear hA e1 hF hlt hd hu hl
   go_enter Tryz.func82,Tryz.ntmps82
   go_wp2_with fail
   refine hf.out.mono ?_
   rintro x w' ⟨rfl,rfl⟩
   go_wp2
   go_ret
   exact ⟨rfl,h0.out,But.refl _ _⟩
  ·have hlf:look s.data.toList S.files=some e.file:=by rw [hA.look,hl];rfl
   have hE0:=hA.ent (look_mem hl)
   have hlen2:(del s.data.toList es).length≤1000000:=by
    refine Nat.le_trans (List.length_filter_le _ _) ?_
    rw [← length_mapv Ent.file,hA.files];exact hlen
   have HLEN:=Lib.hid hlen2
   clear hlen2
   rcases hn:now S with _|kp
   ·have e1:rename S s.data.toList t.data.toList=(0,{ stepS S with files:=ins t.data.toList e.file (del t.data.toList (del s.data.toList S.files)) }):=by
     unfold rename
     rw [hd,hlf,effect_done hn]
     rw [if_neg (by simp),if_neg (by simp)]
     show ((0:Int),{ stepS S with files:=moved s.data.toList t.data.toList S.files })=_
     unfold moved
     rw [hlf]
    rw [e1]
    have hf:=Lib.hid (find_some hA hd s hs hl)
    have he:=Lib.hid (effect_yes hA hd hn)
    have HL:=Lib.hid hl
    have HF:=Lib.hid hF
    have HLT:=Lib.hid hlt
    have HE0:=Lib.hid hE0
    have hfoot:∀ i,(i=p∨∃ a,cr=some a∧a.block=i)→F i:=fun i e=>hF i (e.elim .inl (fun h => .inr (.inr (.inl h))))
    have hfb:F e.fb:=hF _ (.inr (.inr (.inr ⟨_,look_mem hl,.inl rfl⟩)))
    have hfm:F mb:=hF _ (.inr (.inl rfl))
    have hFT:=Lib.hid hfoot
    have hap:=Lib.hid hA.apart
    clear hA e1 hF hlt hl hd hu hn hfoot hE0 hlf
    go_enter Tryz.func82,Tryz.ntmps82
    go_wp2_with fail
    refine hf.out.mono ?_
    rintro x w' ⟨rfl,rfl⟩
    go_wp2_with fail
    refine he.out.mono ?_
    rintro x w1 ⟨rfl,hA,hb⟩
    have hbF:=Lib.hid (hb.mono (T:=F) (fun i _ h=>hFT.out i h))
    clear hb
    have hm1:=hA.map
    have c0:w1.cell? ⟨p,0,none⟩=some (.map (some mb)):=hA.blk.cell 0
    have hne:=map_blk_ne hA.map hA.blk
    have HA:=Lib.hid hA
    clear hA
    go_wp2_with (first
     | (at_delete;refine wpList_delete_own _ rfl _ _ 62 9 rfl 80 law Tryz.underlying62 _ mb _ _ rfl hm1 _ _ rfl (WideMaps.keyOf_string_mk Tryz.underlying9 hs) ?_;intro w2 hm2 ht2;have hA2:=at_deleted HA.out HL.out hm2 ht2;have hm3:=hA2.map;have c2:w2.cell? ⟨p,0,none⟩=some (.map (some mb)):=hA2.blk.cell 0;have HA2:=Lib.hid hA2;have HT2:=Lib.hid ht2;clear hA2 ht2 hm1 c0 hm2)
     | (at_mapUpdate;refine wpList_mapUpdate_own _ rfl _ _ _ 62 rfl 9 80 law Tryz.underlying62 _ mb (del s.data.toList es).length _ rfl hm3 (by have:=HLEN.out;unfold maxLen;omega) _ _ _ rfl rfl (WideMaps.keyOf_string_mk Tryz.underlying9 ht) (.held e.fb) [] rfl ?_;intro w3 hm4 hg3))
    go_ret
    have hE1:=HA.out.ents _ (look_mem HL.out)
    have hE2:EntAt w2 e:=hE1.but (but_turned HT2.out) (fun h=>map_blk_ne HA.out.map hE1.1 h.symm) (fun k hk h=>map_own_ne HA.out.map hE1.2 (h ▸ hk))
    obtain ⟨hA3,hb4⟩:=at_moved (m:=t.data.toList) HA2.out hE2 HE0.out (fun x hx=>sep_of HA.out.sep (look_mem HL.out) (mem_del.1 hx).1 (fun h=>(mem_del.1 hx).2 h.symm)) hm4 hg3
    have hb3:But F w w3:=(hbF.out.trans (but_turned HT2.out) (fun i _ h=>h ▸ hfm)).trans hb4 (fun i _ h=>h ▸ hfm)
    refine ⟨rfl,hA3.hasGrow hb3 HLT.out (fun k hk => .inl (HF.out k ?_)),hb3⟩
    rcases hk with h1|h1|h1|⟨x,hx,h1⟩
    ·exact .inl h1
    ·exact .inr (.inl h1)
    ·exact .inr (.inr (.inl h1))
    ·rcases mem_ins.1 hx with rfl|hx
     ·exact .inr (.inr (.inr ⟨_,look_mem HL.out,h1⟩))
     ·exact .inr (.inr (.inr ⟨x,(mem_del.1 (mem_del.1 hx).1).1,h1⟩))
   ·have e1:rename S s.data.toList t.data.toList=(15,crash kp S):=by
     unfold rename
     rw [hd,hlf,effect_crash hn];rfl
    rw [e1]
    have hf:=Lib.hid (find_some hA hd s hs hl)
    have he:=Lib.hid (effect_no hA hd hn hu)
    have HF:=Lib.hid hF
    have HLT:=Lib.hid hlt
    clear hA e1 hF hlt hl hd hu hn hlf hE0
    go_enter Tryz.func82,Tryz.ntmps82
    go_wp2_with fail
    refine hf.out.mono ?_
    rintro x w' ⟨rfl,rfl⟩
    go_wp2_with fail
    refine he.out.mono ?_
    rintro x w1 ⟨rfl,hA,hb⟩
    have HX:=Lib.hid (has_crash HF.out HLT.out hA hb)
    clear hA hb
    go_wp2
    go_ret
    exact ⟨rfl,HX.out⟩
 ·have e1:rename S s.data.toList t.data.toList=(15,S):=by
   unfold rename
   rw [hd];rfl
  rw [e1]
  have hf:=Lib.hid (find_down hA hd s)
  clear hA e1 hF hlt hd hu
  go_enter Tryz.func82,Tryz.ntmps82
  go_wp2_with fail
  refine hf.out.mono ?_
  rintro x w' ⟨rfl,rfl⟩
  go_wp2
  go_ret
  exact ⟨rfl,h0.out,But.refl _ _⟩
end
end Go.Proofs.YtbhoknnjilidnaaGreatDoor.Disk
