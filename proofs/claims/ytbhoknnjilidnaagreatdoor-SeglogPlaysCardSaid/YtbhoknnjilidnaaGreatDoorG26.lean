/- Contract of disk's Append. MADE BY gen-append.py Contract of disk's Read. -/
import Derived.Test.YtbhoknnjilidnaaGreatDoorG23
import Derived.Deep.RegionHeld3
set_option linter.unusedSimpArgs false
set_option linter.unusedVariables false
set_option maxHeartbeats 2000000
set_option maxRecDepth 100000
section
namespace Go.Proofs.YtbhoknnjilidnaaGreatDoor.Disk
open Go.Proofs.YtbhoknnjilidnaaGreatDoor.Mem
open Go.ChangeShapes Go.WideShapes Go.ChangeAt Go.RowKit
section
variable {w w':World} {p mb:Nat} {S:St} {cr:Option Addr} {es:List (Nm × Ent)} {D:DataW Nat} {F:Nat→Prop}
theorem u8_info:(Tryz.prog.info? 5).map (fun i=>(i.zero,i.size,i.bytes))=some (some (.int .u8 0),1,1):=by kernel_rfl
theorem At.drew (h:At w p S mb cr es D):At w.drew p S mb cr es D:=h.but (T:=fun _=>False) (But.refl _ w).drew (fun _ _ h=>h)
theorem At.below (h:At w p S mb cr es D) (hb:Below w.heap.size w w'):At w' p S mb cr es D:=h.but (But.of_below hb) (fun k hk hge=>by have:=h.lt k hk;omega)
theorem append_full (hA:At w p S mb cr es D) (hd:S.down=false) (s:ByteArray) (hs:s.size≤maxLen) {e:Ent} (hl:look s.data.toList es=some e) (a:Option Addr) (len cap:Nat) (hu:used S+len≤1000000000) (hc:S.cap < ((used S+len:Nat):Int)) :
  Calls Tryz.prog 99 #[.pointer (some ⟨p,0,none⟩),.string s,.slice a len cap] w fun x w'=>x = .returned (errV 12)∧Below w.heap.size w w':=by
 have hf:=Lib.hid (find_some hA hd s hs hl)
 have c1:w.cell? ⟨p,1,none⟩=some (.int .i64 S.cap):=hA.blk.cell 1
 have hplt:=hA.blk.lt
 have hus:=Lib.hid (used_at hA.drew (by omega))
 obtain ⟨U,hU⟩:∃ U,U=used S:=⟨_,rfl⟩
 rw [← hU] at hc hu hus
 have hc':decide (S.cap < (U:Int)+(len:Int))=true:=by simp;omega
 have hw:IntKind.i64.wrap ((U:Int)+(len:Int))=(U:Int)+(len:Int):=by rw [IntKind.wrap_i64];omega
 clear hA hl hd hU hc
 go_enter Tryz.func99,Tryz.ntmps99
 go_wp2_with fail
 refine hf.out.mono ?_
 rintro x w' ⟨rfl,rfl⟩
 go_wp2_with fail
 refine wp_region_held_drew (S:=(fun w'=>w'.cell? ⟨p,1,none⟩=some (.int .i64 S.cap))) (by kernel_rfl) ?_ (fun hH=>?_)
 ·exact c1
 refine wpAnyH_take (i:=0) (v:=?_) (by simp only [List.getElem?_toArray,List.getElem?_cons_succ,List.getElem?_cons_zero];rfl) (by kernel_rfl) (by kernel_rfl) (by kernel_rfl) (by exact fun _ _ _ h=>h) (Or.inl ⟨by rfl,?_⟩) hH ?_
 rotate_left
 ·(intro wy hSw;(try dsimp only at hSw);go_simp;try (with_reducible rfl))
 try simp only [Act.put,List.setIfInBounds_toArray,List.set_cons_zero,List.set_cons_succ]
 refine wpAnyH_take (i:=2) (v:=?_) (by simp only [List.getElem?_toArray,List.getElem?_cons_succ,List.getElem?_cons_zero];rfl) (by kernel_rfl) (by kernel_rfl) (by kernel_rfl) (by exact fun _ _ _ h=>h) (Or.inl ⟨by rfl,?_⟩) hH ?_
 rotate_left
 ·(intro wy hSw;(try dsimp only at hSw);go_simp;try (with_reducible rfl))
 try simp only [Act.put,List.setIfInBounds_toArray,List.set_cons_zero,List.set_cons_succ]
 refine wpAnyH_take (i:=3) (v:=?_) (by simp only [List.getElem?_toArray,List.getElem?_cons_succ,List.getElem?_cons_zero];rfl) (by kernel_rfl) (by kernel_rfl) (by kernel_rfl) (by exact fun _ _ _ h=>h) (Or.inl ⟨by rfl,?_⟩) hH ?_
 rotate_left
 ·(intro wy hSw;(try dsimp only at hSw);go_simp;try (with_reducible rfl))
 try simp only [Act.put,List.setIfInBounds_toArray,List.set_cons_zero,List.set_cons_succ]
 refine wpAnyH_take (i:=5) (v:=?_) (by simp only [List.getElem?_toArray,List.getElem?_cons_succ,List.getElem?_cons_zero];rfl) (by kernel_rfl) (by kernel_rfl) (by kernel_rfl) (by exact fun _ _ _ h=>h) (Or.inl ⟨by rfl,?_⟩) hH ?_
 rotate_left
 ·(intro wy hSw;(try dsimp only at hSw);go_simp;try (with_reducible rfl))
 try simp only [Act.put,List.setIfInBounds_toArray,List.set_cons_zero,List.set_cons_succ]
 refine wpAnyH_take (i:=6) (v:=?_) (by simp only [List.getElem?_toArray,List.getElem?_cons_succ,List.getElem?_cons_zero];rfl) (by kernel_rfl) (by kernel_rfl) (by kernel_rfl) (by exact fun _ _ _ h=>h) (Or.inl ⟨by rfl,?_⟩) hH ?_
 rotate_left
 ·(intro wy hSw;(try dsimp only at hSw);go_simp;try (with_reducible rfl))
 try simp only [Act.put,List.setIfInBounds_toArray,List.set_cons_zero,List.set_cons_succ]
 refine wpAnyH_take (i:=7) (v:=?_) (by simp only [List.getElem?_toArray,List.getElem?_cons_succ,List.getElem?_cons_zero];rfl) (by kernel_rfl) (by kernel_rfl) (by kernel_rfl) (by exact fun _ _ _ h=>h) (Or.inl ⟨by rfl,?_⟩) hH ?_
 rotate_left
 ·(intro wy hSw;(try dsimp only at hSw);go_simp;try (with_reducible rfl))
 try simp only [Act.put,List.setIfInBounds_toArray,List.set_cons_zero,List.set_cons_succ]
 refine wpAnyH_take (i:=8) (v:=?_) (by simp only [List.getElem?_toArray,List.getElem?_cons_succ,List.getElem?_cons_zero];rfl) (by kernel_rfl) (by kernel_rfl) (by kernel_rfl) (by exact fun _ _ _ h=>h) (Or.inl ⟨by rfl,?_⟩) hH ?_
 rotate_left
 ·(intro wy hSw;(try dsimp only at hSw);go_simp;try (with_reducible rfl))
 try simp only [Act.put,List.setIfInBounds_toArray,List.set_cons_zero,List.set_cons_succ]
 refine wpAnyH_ready (rs:=[1]) (by kernel_rfl) (by simp) ?_
 refine AllReadyH.cons (by simp only [List.getElem?_toArray,List.getElem?_cons_succ,List.getElem?_cons_zero];rfl) (fun K hK=>?_) AllReadyH.nil
 clear hH
 go_simp
 go_at_call 9
 refine (hus.out).mono ?_
 rintro x w1 ⟨rfl,hbel⟩
 refine hK.out _ _ ?_ (fun hH=>?_)
 ·exact (hbel.cell (p:=⟨p,1,none⟩) hplt).trans c1
 clear hK K
 try simp only [Act.put,List.setIfInBounds_toArray,List.set_cons_zero,List.set_cons_succ]
 refine wpAnyH_take (i:=4) (v:=?_) (by simp only [List.getElem?_toArray,List.getElem?_cons_succ,List.getElem?_cons_zero];rfl) (by kernel_rfl) (by kernel_rfl) (by kernel_rfl) (by exact fun _ _ _ h=>h) (Or.inl ⟨by rfl,?_⟩) hH ?_
 rotate_left
 ·(intro wy hSw;(try dsimp only at hSw);go_simp;try (with_reducible rfl))
 try simp only [Act.put,List.setIfInBounds_toArray,List.set_cons_zero,List.set_cons_succ]
 refine wpAnyH_take (i:=9) (v:=?_) (by simp only [List.getElem?_toArray,List.getElem?_cons_succ,List.getElem?_cons_zero];rfl) (by kernel_rfl) (by kernel_rfl) (by kernel_rfl) (by exact fun _ _ _ h=>h) (Or.inl ⟨by rfl,?_⟩) hH ?_
 rotate_left
 ·(intro wy hSw;(try dsimp only at hSw);go_simp;try (with_reducible rfl))
 try simp only [Act.put,List.setIfInBounds_toArray,List.set_cons_zero,List.set_cons_succ]
 refine wpAnyH_done (by kernel_rfl) ?_ _
 have hbel0:Below w.heap.size w w1:=(Below.refl _ w).drew.trans hbel
 clear hbel c1
 go_wp2
 go_ret
 exact ⟨rfl,hbel0⟩
theorem append_crash (hA:At w p S mb cr es D) (hd:S.down=false) (s:ByteArray) (hs:s.size≤maxLen) {e:Ent} (hl:look s.data.toList es=some e) (a:Option Addr) (len cap:Nat) (hu:used S+len≤1000000000) (hc:((used S+len:Nat):Int)≤S.cap) {kp:Int} (hn:now S=some kp) :
  Calls Tryz.prog 99 #[.pointer (some ⟨p,0,none⟩),.string s,.slice a len cap] w fun x w'=>x = .returned (errV 15)∧At w' p (crash kp S) mb cr (mapv (truncE kp) es) D∧But (foot p mb cr es) w w':=by
 have HA:=Lib.hid hA
 have HD:=Lib.hid hd
 have HN:=Lib.hid hn
 have HU:=Lib.hid hu
 have hf:=Lib.hid (find_some hA hd s hs hl)
 have c1:w.cell? ⟨p,1,none⟩=some (.int .i64 S.cap):=hA.blk.cell 1
 have hplt:=hA.blk.lt
 have hus:=Lib.hid (used_at hA.drew (by omega))
 obtain ⟨U,hU⟩:∃ U,U=used S:=⟨_,rfl⟩
 rw [← hU] at hc hu hus
 have hc':decide (S.cap < (U:Int)+(len:Int))=false:=by simp;omega
 have hw:IntKind.i64.wrap ((U:Int)+(len:Int))=(U:Int)+(len:Int):=by rw [IntKind.wrap_i64];omega
 clear hA hl hd hU hc hn
 go_enter Tryz.func99,Tryz.ntmps99
 go_wp2_with fail
 refine hf.out.mono ?_
 rintro x w' ⟨rfl,rfl⟩
 go_wp2_with fail
 refine wp_region_held_drew (S:=(fun w'=>w'.cell? ⟨p,1,none⟩=some (.int .i64 S.cap))) (by kernel_rfl) ?_ (fun hH=>?_)
 ·exact c1
 refine wpAnyH_take (i:=0) (v:=?_) (by simp only [List.getElem?_toArray,List.getElem?_cons_succ,List.getElem?_cons_zero];rfl) (by kernel_rfl) (by kernel_rfl) (by kernel_rfl) (by exact fun _ _ _ h=>h) (Or.inl ⟨by rfl,?_⟩) hH ?_
 rotate_left
 ·(intro wy hSw;(try dsimp only at hSw);go_simp;try (with_reducible rfl))
 try simp only [Act.put,List.setIfInBounds_toArray,List.set_cons_zero,List.set_cons_succ]
 refine wpAnyH_take (i:=2) (v:=?_) (by simp only [List.getElem?_toArray,List.getElem?_cons_succ,List.getElem?_cons_zero];rfl) (by kernel_rfl) (by kernel_rfl) (by kernel_rfl) (by exact fun _ _ _ h=>h) (Or.inl ⟨by rfl,?_⟩) hH ?_
 rotate_left
 ·(intro wy hSw;(try dsimp only at hSw);go_simp;try (with_reducible rfl))
 try simp only [Act.put,List.setIfInBounds_toArray,List.set_cons_zero,List.set_cons_succ]
 refine wpAnyH_take (i:=3) (v:=?_) (by simp only [List.getElem?_toArray,List.getElem?_cons_succ,List.getElem?_cons_zero];rfl) (by kernel_rfl) (by kernel_rfl) (by kernel_rfl) (by exact fun _ _ _ h=>h) (Or.inl ⟨by rfl,?_⟩) hH ?_
 rotate_left
 ·(intro wy hSw;(try dsimp only at hSw);go_simp;try (with_reducible rfl))
 try simp only [Act.put,List.setIfInBounds_toArray,List.set_cons_zero,List.set_cons_succ]
 refine wpAnyH_take (i:=5) (v:=?_) (by simp only [List.getElem?_toArray,List.getElem?_cons_succ,List.getElem?_cons_zero];rfl) (by kernel_rfl) (by kernel_rfl) (by kernel_rfl) (by exact fun _ _ _ h=>h) (Or.inl ⟨by rfl,?_⟩) hH ?_
 rotate_left
 ·(intro wy hSw;(try dsimp only at hSw);go_simp;try (with_reducible rfl))
 try simp only [Act.put,List.setIfInBounds_toArray,List.set_cons_zero,List.set_cons_succ]
 refine wpAnyH_take (i:=6) (v:=?_) (by simp only [List.getElem?_toArray,List.getElem?_cons_succ,List.getElem?_cons_zero];rfl) (by kernel_rfl) (by kernel_rfl) (by kernel_rfl) (by exact fun _ _ _ h=>h) (Or.inl ⟨by rfl,?_⟩) hH ?_
 rotate_left
 ·(intro wy hSw;(try dsimp only at hSw);go_simp;try (with_reducible rfl))
 try simp only [Act.put,List.setIfInBounds_toArray,List.set_cons_zero,List.set_cons_succ]
 refine wpAnyH_take (i:=7) (v:=?_) (by simp only [List.getElem?_toArray,List.getElem?_cons_succ,List.getElem?_cons_zero];rfl) (by kernel_rfl) (by kernel_rfl) (by kernel_rfl) (by exact fun _ _ _ h=>h) (Or.inl ⟨by rfl,?_⟩) hH ?_
 rotate_left
 ·(intro wy hSw;(try dsimp only at hSw);go_simp;try (with_reducible rfl))
 try simp only [Act.put,List.setIfInBounds_toArray,List.set_cons_zero,List.set_cons_succ]
 refine wpAnyH_take (i:=8) (v:=?_) (by simp only [List.getElem?_toArray,List.getElem?_cons_succ,List.getElem?_cons_zero];rfl) (by kernel_rfl) (by kernel_rfl) (by kernel_rfl) (by exact fun _ _ _ h=>h) (Or.inl ⟨by rfl,?_⟩) hH ?_
 rotate_left
 ·(intro wy hSw;(try dsimp only at hSw);go_simp;try (with_reducible rfl))
 try simp only [Act.put,List.setIfInBounds_toArray,List.set_cons_zero,List.set_cons_succ]
 refine wpAnyH_ready (rs:=[1]) (by kernel_rfl) (by simp) ?_
 refine AllReadyH.cons (by simp only [List.getElem?_toArray,List.getElem?_cons_succ,List.getElem?_cons_zero];rfl) (fun K hK=>?_) AllReadyH.nil
 clear hH
 go_simp
 go_at_call 9
 refine (hus.out).mono ?_
 rintro x w1 ⟨rfl,hbel⟩
 refine hK.out _ _ ?_ (fun hH=>?_)
 ·exact (hbel.cell (p:=⟨p,1,none⟩) hplt).trans c1
 clear hK K
 try simp only [Act.put,List.setIfInBounds_toArray,List.set_cons_zero,List.set_cons_succ]
 refine wpAnyH_take (i:=4) (v:=?_) (by simp only [List.getElem?_toArray,List.getElem?_cons_succ,List.getElem?_cons_zero];rfl) (by kernel_rfl) (by kernel_rfl) (by kernel_rfl) (by exact fun _ _ _ h=>h) (Or.inl ⟨by rfl,?_⟩) hH ?_
 rotate_left
 ·(intro wy hSw;(try dsimp only at hSw);go_simp;try (with_reducible rfl))
 try simp only [Act.put,List.setIfInBounds_toArray,List.set_cons_zero,List.set_cons_succ]
 refine wpAnyH_take (i:=9) (v:=?_) (by simp only [List.getElem?_toArray,List.getElem?_cons_succ,List.getElem?_cons_zero];rfl) (by kernel_rfl) (by kernel_rfl) (by kernel_rfl) (by exact fun _ _ _ h=>h) (Or.inl ⟨by rfl,?_⟩) hH ?_
 rotate_left
 ·(intro wy hSw;(try dsimp only at hSw);go_simp;try (with_reducible rfl))
 try simp only [Act.put,List.setIfInBounds_toArray,List.set_cons_zero,List.set_cons_succ]
 refine wpAnyH_done (by kernel_rfl) ?_ _
 have hbel0:Below w.heap.size w w1:=(Below.refl _ w).drew.trans hbel
 clear hbel c1
 have he:=Lib.hid (effect_no (HA.out.below hbel0) HD.out HN.out (by have:=HU.out;omega))
 go_wp2_with fail
 refine he.out.mono ?_
 rintro x w2 ⟨rfl,hA2,hb2⟩
 have HA2:=Lib.hid hA2
 have HB2:=Lib.hid ((But.of_new (S:=foot p mb cr es) hbel0).trans' hb2)
 clear hA2 hb2 hbel0
 go_wp2
 go_ret
 exact ⟨rfl,HA2.out,HB2.out⟩
theorem append_yes (hA:At w p S mb cr es D) (hF:∀ k,foot p mb cr es k→F k) (hlt:∀ k,F k→k < w.heap.size) (hd:S.down=false) (s:ByteArray) (hs:s.size≤maxLen) {e:Ent} (hl:look s.data.toList es=some e) (a:Option Addr) (len cap:Nat) (zs:List Int) (hr:Row w a len zs) (hnil:a=none→cap=0) (hna:∀ q,a=some q→0 < len→¬ F q.block)
  (hu:used S+len≤1000000000) (hc:((used S+len:Nat):Int)≤S.cap) (hn:now S=none) :
  Calls Tryz.prog 99 #[.pointer (some ⟨p,0,none⟩),.string s,.slice a len cap] w fun x w'=>x = .returned (errV 0)∧Has w' p { stepS S with files:=upd s.data.toList (fun _=>(⟨e.bytes++zs,e.synced⟩:File)) S.files } (grow F w w')∧But F w w':=by
 obtain ⟨i0,hi0,hz0,hz1,hz2⟩:=info_parts u8_info
 have HA:=Lib.hid hA
 have HD:=Lib.hid hd
 have HN:=Lib.hid hn
 have HL:=Lib.hid hl
 have HF:=Lib.hid hF
 have HLT:=Lib.hid hlt
 have HR:=Lib.hid hr
 have HNA:=Lib.hid hna
 have hfoot:∀ i,(i=p∨∃ a,cr=some a∧a.block=i)→F i:=fun i e=>hF i (e.elim .inl (fun h => .inr (.inr (.inl h))))
 have hFT:=Lib.hid hfoot
 have hfb:F e.fb:=hF _ (.inr (.inr (.inr ⟨_,look_mem hl,.inl rfl⟩)))
 have hfv:∀ k,e.v.ownBlock=some k→F k:=fun k hk=>hF _ (.inr (.inr (.inr ⟨_,look_mem hl,.inr hk⟩)))
 have HFV:=Lib.hid hfv
 have hE0:=hA.ent (look_mem hl)
 have hle:e.bytes.length≤used S:=by
  have:=total_le_of (f:=fun e:Ent=>e.bytes.length) (look_mem hl)
  rw [used_eq hA] at this
  exact this
 have hzl:zs.length=len:=hr.1
 have HZ:=Lib.hid hzl
 have hf:=Lib.hid (find_some hA hd s hs hl)
 have c1:w.cell? ⟨p,1,none⟩=some (.int .i64 S.cap):=hA.blk.cell 1
 have hplt:=hA.blk.lt
 have hus:=Lib.hid (used_at hA.drew (by omega))
 obtain ⟨U,hU⟩:∃ U,U=used S:=⟨_,rfl⟩
 rw [← hU] at hc hu hus
 have hc':decide (S.cap < (U:Int)+(len:Int))=false:=by simp;omega
 have hw:IntKind.i64.wrap ((U:Int)+(len:Int))=(U:Int)+(len:Int):=by rw [IntKind.wrap_i64];omega
 rw [← hU] at hle
 have hsum:e.bytes.length+len≤1000000000:=by omega
 clear hA hl hd hU hc hn hF hlt hr hna hfoot hfv hzl hle
 go_enter Tryz.func99,Tryz.ntmps99
 go_wp2_with fail
 refine hf.out.mono ?_
 rintro x w' ⟨rfl,rfl⟩
 go_wp2_with fail
 refine wp_region_held_drew (S:=(fun w'=>w'.cell? ⟨p,1,none⟩=some (.int .i64 S.cap))) (by kernel_rfl) ?_ (fun hH=>?_)
 ·exact c1
 refine wpAnyH_take (i:=0) (v:=?_) (by simp only [List.getElem?_toArray,List.getElem?_cons_succ,List.getElem?_cons_zero];rfl) (by kernel_rfl) (by kernel_rfl) (by kernel_rfl) (by exact fun _ _ _ h=>h) (Or.inl ⟨by rfl,?_⟩) hH ?_
 rotate_left
 ·(intro wy hSw;(try dsimp only at hSw);go_simp;try (with_reducible rfl))
 try simp only [Act.put,List.setIfInBounds_toArray,List.set_cons_zero,List.set_cons_succ]
 refine wpAnyH_take (i:=2) (v:=?_) (by simp only [List.getElem?_toArray,List.getElem?_cons_succ,List.getElem?_cons_zero];rfl) (by kernel_rfl) (by kernel_rfl) (by kernel_rfl) (by exact fun _ _ _ h=>h) (Or.inl ⟨by rfl,?_⟩) hH ?_
 rotate_left
 ·(intro wy hSw;(try dsimp only at hSw);go_simp;try (with_reducible rfl))
 try simp only [Act.put,List.setIfInBounds_toArray,List.set_cons_zero,List.set_cons_succ]
 refine wpAnyH_take (i:=3) (v:=?_) (by simp only [List.getElem?_toArray,List.getElem?_cons_succ,List.getElem?_cons_zero];rfl) (by kernel_rfl) (by kernel_rfl) (by kernel_rfl) (by exact fun _ _ _ h=>h) (Or.inl ⟨by rfl,?_⟩) hH ?_
 rotate_left
 ·(intro wy hSw;(try dsimp only at hSw);go_simp;try (with_reducible rfl))
 try simp only [Act.put,List.setIfInBounds_toArray,List.set_cons_zero,List.set_cons_succ]
 refine wpAnyH_take (i:=5) (v:=?_) (by simp only [List.getElem?_toArray,List.getElem?_cons_succ,List.getElem?_cons_zero];rfl) (by kernel_rfl) (by kernel_rfl) (by kernel_rfl) (by exact fun _ _ _ h=>h) (Or.inl ⟨by rfl,?_⟩) hH ?_
 rotate_left
 ·(intro wy hSw;(try dsimp only at hSw);go_simp;try (with_reducible rfl))
 try simp only [Act.put,List.setIfInBounds_toArray,List.set_cons_zero,List.set_cons_succ]
 refine wpAnyH_take (i:=6) (v:=?_) (by simp only [List.getElem?_toArray,List.getElem?_cons_succ,List.getElem?_cons_zero];rfl) (by kernel_rfl) (by kernel_rfl) (by kernel_rfl) (by exact fun _ _ _ h=>h) (Or.inl ⟨by rfl,?_⟩) hH ?_
 rotate_left
 ·(intro wy hSw;(try dsimp only at hSw);go_simp;try (with_reducible rfl))
 try simp only [Act.put,List.setIfInBounds_toArray,List.set_cons_zero,List.set_cons_succ]
 refine wpAnyH_take (i:=7) (v:=?_) (by simp only [List.getElem?_toArray,List.getElem?_cons_succ,List.getElem?_cons_zero];rfl) (by kernel_rfl) (by kernel_rfl) (by kernel_rfl) (by exact fun _ _ _ h=>h) (Or.inl ⟨by rfl,?_⟩) hH ?_
 rotate_left
 ·(intro wy hSw;(try dsimp only at hSw);go_simp;try (with_reducible rfl))
 try simp only [Act.put,List.setIfInBounds_toArray,List.set_cons_zero,List.set_cons_succ]
 refine wpAnyH_take (i:=8) (v:=?_) (by simp only [List.getElem?_toArray,List.getElem?_cons_succ,List.getElem?_cons_zero];rfl) (by kernel_rfl) (by kernel_rfl) (by kernel_rfl) (by exact fun _ _ _ h=>h) (Or.inl ⟨by rfl,?_⟩) hH ?_
 rotate_left
 ·(intro wy hSw;(try dsimp only at hSw);go_simp;try (with_reducible rfl))
 try simp only [Act.put,List.setIfInBounds_toArray,List.set_cons_zero,List.set_cons_succ]
 refine wpAnyH_ready (rs:=[1]) (by kernel_rfl) (by simp) ?_
 refine AllReadyH.cons (by simp only [List.getElem?_toArray,List.getElem?_cons_succ,List.getElem?_cons_zero];rfl) (fun K hK=>?_) AllReadyH.nil
 clear hH
 go_simp
 go_at_call 9
 refine (hus.out).mono ?_
 rintro x w1 ⟨rfl,hbel⟩
 refine hK.out _ _ ?_ (fun hH=>?_)
 ·exact (hbel.cell (p:=⟨p,1,none⟩) hplt).trans c1
 clear hK K
 try simp only [Act.put,List.setIfInBounds_toArray,List.set_cons_zero,List.set_cons_succ]
 refine wpAnyH_take (i:=4) (v:=?_) (by simp only [List.getElem?_toArray,List.getElem?_cons_succ,List.getElem?_cons_zero];rfl) (by kernel_rfl) (by kernel_rfl) (by kernel_rfl) (by exact fun _ _ _ h=>h) (Or.inl ⟨by rfl,?_⟩) hH ?_
 rotate_left
 ·(intro wy hSw;(try dsimp only at hSw);go_simp;try (with_reducible rfl))
 try simp only [Act.put,List.setIfInBounds_toArray,List.set_cons_zero,List.set_cons_succ]
 refine wpAnyH_take (i:=9) (v:=?_) (by simp only [List.getElem?_toArray,List.getElem?_cons_succ,List.getElem?_cons_zero];rfl) (by kernel_rfl) (by kernel_rfl) (by kernel_rfl) (by exact fun _ _ _ h=>h) (Or.inl ⟨by rfl,?_⟩) hH ?_
 rotate_left
 ·(intro wy hSw;(try dsimp only at hSw);go_simp;try (with_reducible rfl))
 try simp only [Act.put,List.setIfInBounds_toArray,List.set_cons_zero,List.set_cons_succ]
 refine wpAnyH_done (by kernel_rfl) ?_ _
 have hbel0:Below w.heap.size w w1:=(Below.refl _ w).drew.trans hbel
 clear hbel c1
 have he:=Lib.hid (effect_yes (HA.out.below hbel0) HD.out HN.out)
 go_wp2_with fail
 refine he.out.mono ?_
 rintro x w2 ⟨rfl,hA2,hb2⟩
 have hbF:But F w w2:=(But.of_new (S:=F) hbel0).trans hb2 (fun i _ h=>hFT.out i h)
 have hE:=hA2.ents _ (look_mem HL.out)
 have k0:w2.cell? ⟨e.fb,0,none⟩=some e.v:=hE.1.cell 0
 have hr2:=HR.out.but hbF (fun q hq hn=>HNA.out q hq hn)
 have hsee:=hr2.sees hnil
 have hown:=hE.2
 have hlt2:=hE.1.lt
 have HA2:=Lib.hid hA2
 have HE:=Lib.hid hE
 have HB:=Lib.hid hbF
 have g0:=hE.1.frozen 0
 clear hA2 hE hb2 hbF hr2 hbel0
 have hne:=own_blk_ne HE.out.2 HE.out.1 (by decide)
 go_wp2_with (at_builtin;refine wpList_append_onto rfl _ _ 81 rfl 0 5 i0 _ 1 1 Tryz.underlying81 hi0 hz0 hz1 hz2 rfl (by omega) e.v e.bytes.length (cellsOf e.bytes) rfl hown (.slice a len cap) len (cellsOf zs) rfl hsee (cellsOf_one _) (by unfold maxLen;omega) (by omega) (Nat.zero_le _) ?_;intro v' w3 hown3 honto;obtain ⟨a3,c3,rfl,hx1,hx2,hx3⟩:=own_shape (xs:=e.bytes++zs) (by rw [cellsOf_append];exact hown3) (bytes_append hE0.2 HR.out.2.1);clear hx1 hx2 hx3;have hblk3:=HE.out.1.but honto.but (fun h=>hne h.symm);have k3:w3.cell? ⟨e.fb,0,none⟩=some e.v:=hblk3.cell 0;have g3:=hblk3.frozen 0;have HO:=Lib.hid honto;have HO3:=Lib.hid hown3;have HB3:=Lib.hid hblk3;clear honto hown3 hblk3 hsee hown k0 g0 hlt2)
 go_ret
 obtain ⟨v',hv'⟩:∃ v',v'=Value.slice a3 (e.bytes.length+len) c3:=⟨_,rfl⟩
 rw [← hv'] at HO HO3 ⊢
 clear hv'
 have hbt:But (fun k=>k=e.fb∨e.v.ownBlock=some k) w2 (w3.setCell ⟨e.fb,0,none⟩ v'):=(HO.out.but.mono (T:=fun k=>k=e.fb∨e.v.ownBlock=some k) (fun i _ h => .inr h.symm)).trans (but_set w3 e.fb 0 v') (fun i _ h => .inl h)
 have hv3:∀ k,v'.ownBlock=some k→e.v.ownBlock=some k∨w2.heap.size≤k:=by
  intro k hk
  rcases HO.out.own with h|h
  ·exact .inl (h ▸ hk)
  ·exact .inr (h k hk)
 have hE3:EntAt (w3.setCell ⟨e.fb,0,none⟩ v') ⟨e.fb,v',e.bytes++zs,e.synced⟩:=by
  refine ⟨HB3.out.set_ 0 v',?_⟩
  have:=ownsRow_but HO3.out (but_set w3 e.fb 0 v') (fun k hk h=>?_)
  ·rw [List.length_append,HZ.out,cellsOf_append];exact this
  ·subst h
   rcases hv3 _ hk with h1|h1
   ·exact hne h1
   ·have:=HE.out.1.lt;omega
 have hA3:=HA2.out.upd_ (e':=⟨e.fb,v',e.bytes++zs,e.synced⟩) HL.out hbt (fun k _ h=>h) hE3 rfl hv3 (Nat.le_trans hE0.1 (by rw [List.length_append];exact Nat.le_add_right _ _)) (bytes_append hE0.2 HR.out.2.1)
 have hb4:But F w (w3.setCell ⟨e.fb,0,none⟩ v'):=HB.out.trans hbt (fun i _ h=>h.elim (fun h=>h ▸ hfb) (fun h=>HFV.out i h))
 refine ⟨rfl,hA3.hasGrow hb4 HLT.out (fun k hk=>?_),hb4⟩
 rcases foot_upd (w:=w2) (e':=⟨e.fb,v',e.bytes++zs,e.synced⟩) HL.out rfl hv3 k hk with h|h
 ·exact .inl (HF.out k h)
 ·exact .inr (Nat.le_trans HB.out.size h)
theorem append_any (h:Has w p S F) (s:ByteArray) (hs:s.size≤maxLen) (a:Option Addr) (len cap:Nat) (zs:List Int) (hr:Row w a len zs) (hnil:a=none→cap=0) (hna:∀ q,a=some q→0 < len→¬ F q.block) (hu:used S+len≤1000000000) :
  Calls Tryz.prog 99 #[.pointer (some ⟨p,0,none⟩),.string s,.slice a len cap] w fun x w'=>x = .returned (errV (append S s.data.toList zs).1)∧Has w' p (append S s.data.toList zs).2 (grow F w w')∧But F w w':=by
 have h0:=Lib.hid (grow_refl h)
 obtain ⟨mb,cr,es,D,hA,hF,hlt⟩:=h
 have hzl:zs.length=len:=hr.1
 rcases hd:S.down with _|_
 ·rcases hl:look s.data.toList es with _|e
  ·have e1:append S s.data.toList zs=(5,S):=by
    unfold append
    rw [hd,hA.look,hl];rfl
   rw [e1]
   have hf:=Lib.hid (find_none hA hd s hs hl)
   clear hA e1 hF hlt hl hd hu hzl hr
   go_enter Tryz.func99,Tryz.ntmps99
   go_wp2_with fail
   refine hf.out.mono ?_
   rintro x w' ⟨rfl,rfl⟩
   go_wp2
   go_ret
   exact ⟨rfl,h0.out,But.refl _ _⟩
  ·have hlf:look s.data.toList S.files=some e.file:=by rw [hA.look,hl];rfl
   by_cases hc:S.cap < ((used S+len:Nat):Int)
   ·have e1:append S s.data.toList zs=(12,S):=by
     unfold append
     rw [hd,hlf,hzl,if_neg (by simp),if_neg (by simp),if_pos hc]
    rw [e1]
    refine (append_full hA hd s hs hl a len cap hu hc).mono ?_
    rintro x w' ⟨rfl,hb⟩
    have hb2:But F w w':=But.of_new hb
    exact ⟨rfl,(hA.below hb).hasGrow hb2 hlt (fun k hk => .inl (hF k hk)),hb2⟩
   ·have e0:append S s.data.toList zs=effect S fun T=>{ T with files:=upd s.data.toList (fun f=>⟨f.bytes++zs,f.synced⟩) T.files }:=by
     unfold append
     rw [hd,hlf,hzl,if_neg (by simp),if_neg (by simp),if_neg hc]
    rw [e0]
    rcases hn:now S with _|kp
    ·rw [effect_done hn,step_files,upd_const (a:=e.file) hA.good.apart hlf]
     exact append_yes hA hF hlt hd s hs hl a len cap zs hr hnil hna hu (by omega) hn
    ·rw [effect_crash hn]
     refine (append_crash hA hd s hs hl a len cap hu (by omega) hn).mono ?_
     rintro x w' ⟨rfl,hA2,hb⟩
     exact ⟨rfl,has_crash hF hlt hA2 hb⟩
 ·have e1:append S s.data.toList zs=(15,S):=by
   unfold append
   rw [hd];rfl
  rw [e1]
  have hf:=Lib.hid (find_down hA hd s)
  clear hA e1 hF hlt hd hu hzl hr
  go_enter Tryz.func99,Tryz.ntmps99
  go_wp2_with fail
  refine hf.out.mono ?_
  rintro x w' ⟨rfl,rfl⟩
  go_wp2
  go_ret
  exact ⟨rfl,h0.out,But.refl _ _⟩
end
end Go.Proofs.YtbhoknnjilidnaaGreatDoor.Disk
end
section
namespace Go.Proofs.YtbhoknnjilidnaaGreatDoor.Disk
open Go.Proofs.YtbhoknnjilidnaaGreatDoor.Mem
open Go.ChangeShapes Go.WideShapes Go.ChangeAt Go.RowKit
section
variable {w w':World} {p mb:Nat} {S:St} {cr:Option Addr} {es:List (Nm × Ent)} {D:DataW Nat} {F:Nat→Prop}
theorem sees_piece {a:Option Addr} {g len cap off k:Nat} {bytes:List Int} (h:Row w (some ⟨g,0,none⟩) len bytes) (hk:off+k≤len) (hn:0 < k→a=some ⟨g,off,none⟩) (ha:a≠none):Sees w 1 (.slice a k cap) k (cellsOf ((bytes.drop off).take k)):=by
 have hl:((bytes.drop off).take k).length=k:=by
  rw [List.length_take,List.length_drop,h.1];omega
 have hrow:Row w a k ((bytes.drop off).take k):=by
  refine ⟨hl,bytes_take (bytes_drop h.2.1 off) k,fun h0=>?_⟩
  obtain ⟨b,o,hq,hlt,hc⟩:=h.2.2 (by omega)
  injection hq with hq
  injection hq with hq1 hq2
  subst hq1 hq2
  refine ⟨g,off,hn h0,hlt,fun i hi=>?_⟩
  have:=hc (off+i) (by omega)
  rw [Nat.zero_add] at this
  rw [this]
  simp [List.getD,List.getElem?_drop,hi]
 exact hrow.sees (fun h=>absurd h ha)
theorem read_yes (hA:At w p S mb cr es D) (hd:S.down=false) (s:ByteArray) (hs:s.size≤maxLen) {e:Ent} (hl:look s.data.toList es=some e) (off k:Nat) (hk:off+k≤e.bytes.length) (hu:e.bytes.length≤1000000000) :
  Calls Tryz.prog 43 #[.pointer (some ⟨p,0,none⟩),.string s,.int .i64 (off:Int),.int .i64 (k:Int)] w fun x w'=>∃ a c,x = .returned (.tuple #[.slice a k c,errV 0])∧Row w' a k ((e.bytes.drop off).take k)∧Below w.heap.size w w'∧k≤c∧c≤maxLen∧(a=none→c=0):=by
 obtain ⟨i0,hi0,hz0,hz1,hz2⟩:=info_parts u8_info
 have hf:=Lib.hid (find_some hA hd s hs hl)
 have hE:=hA.ents _ (look_mem hl)
 have hE0:=hA.ent (look_mem hl)
 obtain ⟨fb,v,bytes,synced⟩:=e
 obtain ⟨a,cap,hv,hrow,_,hsh⟩:=own_shape hE.2 hE0.2
 simp only at hv hk hu hsh hrow
 subst hv
 have k0:w.cell? ⟨fb,0,none⟩=some (.slice a bytes.length cap):=hE.1.cell 0
 have hby:Bytes ((bytes.drop off).take k):=bytes_take (bytes_drop hE0.2 off) k
 have t1:decide ((off:Int) < 0)=false:=by simp
 have t2:decide ((k:Int) < 0)=false:=by simp
 have t3:decide ((bytes.length:Int) - (off:Int) < (k:Int))=false:=by simp;omega
 have HBY:=Lib.hid hby
 have hown:=World.ownsRow_nil w w.heap.size 5 1
 have hfin:∀ v' w',w'.ownsRow w.heap.size 5 1 v' (0+k) ([]++cellsOf ((bytes.drop off).take k))→Onto w w' (.slice none 0 0) v'→∃ a c,v' = .slice a k c∧Row w' a k ((bytes.drop off).take k)∧Below w.heap.size w w'∧k≤c∧c≤maxLen∧(a=none→c=0):=by
  intro v' w' ho hon
  rw [List.nil_append,Nat.zero_add] at ho
  obtain ⟨a,c,hv,hr,hl,hD⟩:=own_shape ho HBY.out
  refine ⟨a,c,hv,hr,(Below.refl _ w).grown hon.grown (Nat.le_refl _) (fun j hj=>by cases hj),?_,?_,fun hn=>?_⟩
  ·rcases hD with ⟨_,_,h⟩|⟨g,h1,h2,h3,h4,h5⟩ <;> omega
  ·rcases hD with ⟨_,h,_⟩|⟨g,h1,h2,h3,h4,h5⟩
   ·rw [h];exact Nat.zero_le _
   ·exact h5
  ·rcases hD with ⟨_,h,_⟩|⟨g,h1,h2,h3,h4,h5⟩
   ·exact h
   ·rw [hn] at h1;cases h1
 have HF:=Lib.hid hfin
 rcases hsh with ⟨rfl,rfl,hn0⟩|⟨g,rfl,_,hglt,hlc,hcm⟩
 ·have hb0:bytes=[]:=List.eq_nil_of_length_eq_zero hn0
  subst hb0
  have ho0:off=0:=by simp at hk;omega
  have hk0:k=0:=by simp at hk;omega
  subst ho0 hk0
  clear hA hl hd hE hE0 hrow hu hk t1 t2 t3 hby hfin hn0
  go_enter Tryz.func43,Tryz.ntmps43
  go_wp2_with fail
  refine hf.out.mono ?_
  rintro x w' ⟨rfl,rfl⟩
  go_wp2_with (at_builtin;refine wpList_append_onto rfl _ _ 81 rfl w.heap.size 5 i0 _ 1 1 Tryz.underlying81 hi0 hz0 hz1 hz2 rfl (by omega) (.slice none 0 0) 0 [] rfl hown (.slice none 0 0) 0 [] rfl (.inl ⟨rfl,rfl,rfl⟩) (by intro u hu;cases hu) (by unfold maxLen;omega) (by omega) (Nat.le_refl _) ?_;intro v' w3 hown3 honto;obtain ⟨a3,c3,rfl,hr3,hb3⟩:=HF.out _ _ hown3 honto;clear hown3 honto)
  go_ret2
  exact ⟨_,_,rfl,hr3,hb3⟩
 ·have hcm':cap≤9223372036854775807:=by simpa [maxLen] using hcm
  have hlc':(bytes.length:Int)≤(cap:Int):=by omega
  have HRW:=Lib.hid hrow
  by_cases hco:cap=off
  ·have hk0:k=0:=by omega
   subst hk0
   have hsee:=sees_piece (a:=some ⟨g,0,none⟩) (cap:=0) (off:=off) (k:=0) HRW.out (by omega) (fun h=>by omega) (by simp)
   have t4:decide ((bytes.length:Int) - (cap:Int) < 0)=false:=by simp;omega
   clear hA hl hd hE hE0 hrow hby hfin hu hk
   subst hco
   go_enter Tryz.func43,Tryz.ntmps43
   go_wp2_with fail
   refine hf.out.mono ?_
   rintro x w' ⟨rfl,rfl⟩
   go_wp2_with (at_builtin;refine wpList_append_onto rfl _ _ 81 rfl w.heap.size 5 i0 _ 1 1 Tryz.underlying81 hi0 hz0 hz1 hz2 rfl (by omega) (.slice none 0 0) 0 [] rfl hown (.slice (some ⟨g,0,none⟩) 0 0) 0 (cellsOf ((bytes.drop cap).take 0)) rfl hsee (cellsOf_one _) (by unfold maxLen;omega) (by omega) (Nat.le_refl _) ?_;intro v' w3 hown3 honto;obtain ⟨a3,c3,rfl,hr3,hb3⟩:=HF.out _ _ hown3 honto;clear hown3 honto)
   go_ret2
   exact ⟨_,_,rfl,hr3,hb3⟩
  ·have hsee:=sees_piece (a:=some ⟨g,off,none⟩) (cap:=cap - off) (off:=off) (k:=k) HRW.out (by omega) (fun h=>rfl) (by simp)
   have hsee2:∀ y,y=Value.slice (some ⟨g,off,none⟩) k (cap - off)→Sees w 1 y k (cellsOf ((bytes.drop off).take k)):=fun y h=>h ▸ hsee
   have u1:(off:Int)+(k:Int)≤(cap:Int):=by omega
   have u2:(k:Int)≤1000000000:=by omega
   clear hA hl hd hE hE0 hrow hby hfin hu hk hlc
   go_enter Tryz.func43,Tryz.ntmps43
   go_wp2_with fail
   refine hf.out.mono ?_
   rintro x w' ⟨rfl,rfl⟩
   go_wp2_with (at_builtin;refine wpList_append_onto rfl _ _ 81 rfl w.heap.size 5 i0 _ 1 1 Tryz.underlying81 hi0 hz0 hz1 hz2 rfl (by omega) (.slice none 0 0) 0 [] rfl hown _ k (cellsOf ((bytes.drop off).take k)) rfl (hsee2 _ (by simp [Act.eval])) (cellsOf_one _) (by unfold maxLen;omega) (by omega) (Nat.le_refl _) ?_;intro v' w3 hown3 honto;obtain ⟨a3,c3,rfl,hr3,hb3⟩:=HF.out _ _ hown3 honto;clear hown3 honto)
   go_ret2
   exact ⟨_,_,rfl,hr3,hb3⟩
end
end Go.Proofs.YtbhoknnjilidnaaGreatDoor.Disk
end
