/- Contract of the bucket's Tick. The library's contracts on numbers' texts and on slices, laid at this translation by the kit's tools. The library's contract on slices.SortFunc, laid at this translation by the kit's tools. Entries by rising keys: the program's sort. Contract of the program's Entries. -/
import Derived.Test.YtgjofinbdigmcaaGreatG22
import Derived.Shelf.Strings.Builder1
import Derived.Shelf.Strings.Builder2
import Derived.Shelf.Small.Bits
import Derived.Shelf.Small.Strs
import Derived.Shelf.Strings.BuilderF
import Derived.Shelf.Strconv.Itoa0
import Derived.Shelf.Strings.Prefix
import Derived.Shelf.Bits.Mul64
import Derived.Shelf.Strings.Repeat
import Derived.Test.YtgjofinbdigmcaaGreatProg
import Derived.Shelf.SlGeneric
import Derived.Shelf.SlSortCmp.WholeK
import Derived.Ground.SlsfProg
import Derived.Test.YtgjofinbdigmcaaGreatG07
import Derived.Test.YtgjofinbdigmcaaGreatG05
set_option linter.unusedSimpArgs false
set_option linter.unusedVariables false
set_option maxHeartbeats 2000000
set_option maxRecDepth 100000
section
namespace Go.Proofs.YtgjofinbdigmcaaGreat.Buk
open Go.Proofs.YtgjofinbdigmcaaGreat.Mem
open Go.ChangeShapes Go.WideShapes Go.ChangeAt Go.RowKit
def Ticks (T T':Tab) (now:Nat):Prop:=∀ e,some e ∈ T' ↔ some e ∈ T∧(e.exp=0∨now < e.exp)
theorem mem_del {T:Tab} {i:Nat} (h:Key.Good T i) {s:ByteArray} {e:Ent}:some e ∈ Key.del T s ↔ some e ∈ T∧e.key≠s:=by
 rw [← mem_all,(all_del h s).mem_iff,mem_but,mem_all]
theorem isOf_iff {T:Tab} {i:Nat} (h:Key.Good T i) {x:It}:isOf T x=true ↔ ∃ e,some e ∈ T∧e.key=x.key∧e.exp=x.time:=by
 unfold isOf
 constructor
 ·intro h1
  cases ha:Key.ask T x.key with
  | none=>rw [ha] at h1;cases h1
  | some e =>
   rw [ha] at h1
   obtain ⟨h2,h3⟩:=(Key.ask_iff h.wf h.free).1 ha
   exact ⟨e,h2,h3,of_decide_eq_true h1⟩
 ·rintro ⟨e,h1,h2,h3⟩
  rw [(Key.ask_iff h.wf h.free).2 ⟨h1,h2⟩]
  exact decide_eq_true h3
structure Swp (w:World) (s:Bl) (B:Bk) (T:Tab) (i g:Nat) (D m':List It) (rest:List Value) (k c:Nat) (s':Bl) (T':Tab) (wr:World):Prop where
 bm:BM wr s' { B with bytes:=tot (all T') } T' m' i
 row:Exp.IRow wr 68 g D rest
 step:Step w s s' wr
 own:¬ Foot s' g
 okt:OkT T'
 sub:∀ e,some e ∈ T'→some e ∈ T
 gone:∀ x ∈ D.take k,isOf T' x=false
 kept:∀ e,some e ∈ T→some e ∈ T'∨∃ x ∈ D,e.key=x.key∧e.exp=x.time
 cnt:c+Key.cnt T'=Key.cnt T
section
variable {w wr w2:World} {s s':Bl} {B:Bk} {T T':Tab} {m m' D:List It} {rest:List Value} {i g k c:Nat}
theorem Swp.new (h:Swp w s B T i g D m' rest k c s' T' wr) (hb:But (fun _=>False) wr w2):Swp w s B T i g D m' rest k c s' T' w2 :=
 ⟨h.bm.new hb,h.row.but hb (fun h=>h),h.step.trans (Step.of_new hb),h.own,h.okt,h.sub,h.gone,h.kept,h.cnt⟩
theorem Swp.skip (h:Swp w s B T i g D m' rest k c s' T' wr) (hk:k < D.length) (hx:isOf T' (Exp.look D k)=false):Swp w s B T i g D m' rest (k+1) c s' T' wr :=
 ⟨h.bm,h.row,h.step,h.own,h.okt,h.sub,fun x hx'=>by
  rw [take_look hk] at hx'
  rcases List.mem_append.1 hx' with h1|h1
  ·exact h.gone x h1
  ·rw [List.mem_singleton.1 h1];exact hx,h.kept,h.cnt⟩
theorem Swp.take (h:Swp w s B T i g D m' rest k c s' T' wr) (hk:k < D.length) (hx:isOf T' (Exp.look D k)=true) (hm:BM w2 s' { B with bytes:=tot (all (Key.del T' (Exp.look D k).key)) } (Key.del T' (Exp.look D k).key) m' i) (hs:Step wr s' s' w2):Swp w s B T i g D m' rest (k+1) (c+1) s' (Key.del T' (Exp.look D k).key) w2:=by
 have hg:=h.bm.key.good
 obtain ⟨e,he1,he2,he3⟩:=(isOf_iff hg).1 hx
 refine ⟨hm,h.row.but hs.but h.own,h.step.trans hs,h.own,h.okt.del hg _,fun f hf=>h.sub f ((mem_del hg).1 hf).1,fun x hx'=>?_,fun f hf=>?_,?_⟩
 ·cases hq:isOf (Key.del T' (Exp.look D k).key) x with
  | false=>rfl
  | true =>
   obtain ⟨f,hf1,hf2,hf3⟩:=(isOf_iff (hg.del _)).1 hq
   obtain ⟨hf4,hf5⟩:=(mem_del hg).1 hf1
   rw [take_look hk] at hx'
   rcases List.mem_append.1 hx' with h1|h1
   ·have:=h.gone x h1
    rw [(isOf_iff hg).2 ⟨f,hf4,hf2,hf3⟩] at this
    cases this
   ·rw [List.mem_singleton.1 h1] at hf2
    exact absurd hf2 hf5
 ·rcases h.kept f hf with h1|h1
  ·by_cases hk2:f.key=(Exp.look D k).key
   ·right
    have hfe:f=e:=by
     have h3:=(Key.ask_iff hg.wf hg.free).2 ⟨h1,hk2⟩
     have h4:=(Key.ask_iff hg.wf hg.free).2 ⟨he1,he2⟩
     rw [h3] at h4
     exact Option.some.inj h4
    rw [hfe]
    exact ⟨_,look_in hk,he2,he3⟩
   ·exact .inl ((mem_del hg).2 ⟨h1,hk2⟩)
  ·exact .inr h1
 ·have h1:=Key.cnt_del hg (Exp.look D k).key
  rw [(Key.ask_iff hg.wf hg.free).2 ⟨he1,he2⟩] at h1
  have h2:=h.cnt
  simp at h1
  omega
theorem Swp.done (h:Swp w s B T i g D m' rest k c s' T' wr) (hk:D.length≤k) (o:Ok B T m i) (now:Nat) (hm:m=D++m') (hD:∀ x ∈ D,x.time≤now) (hm':∀ x ∈ m',now < x.time):Ticks T T' now∧Ok { B with bytes:=tot (all T') } T' m' i:=by
 have hg:=h.bm.key.good
 have hti:Ticks T T' now:=fun e=>⟨fun he=>by
  refine ⟨h.sub e he,?_⟩
  by_cases h0:e.exp=0
  ·exact .inl h0
  ·have h1:=o.cov e (h.sub e he) h0
   rw [hm] at h1
   rcases List.mem_append.1 h1 with h2|h2
   ·have h3:=h.gone _ (by rw [List.take_of_length_le hk];exact h2)
    rw [(isOf_iff hg).2 ⟨e,he,rfl,rfl⟩] at h3
    cases h3
   ·exact .inr (hm' _ h2),fun ⟨he,hq⟩=>by
  rcases h.kept e he with h1|⟨x,hx,h2,h3⟩
  ·exact h1
  ·have h4:=hD x hx
   have h5:=(o.okm x (by rw [hm];exact List.mem_append_left _ hx)).1.1
   rcases hq with hq|hq <;> omega⟩
 refine ⟨hti,rfl,fun e he h0=>?_,?_,fun x hx=>o.okm x (by rw [hm];exact List.mem_append_right _ hx),h.okt,o.id,o.gen,o.seq,o.serial,o.charged⟩
 ·have h1:=o.cov e (h.sub e he) h0
  rw [hm] at h1
  rcases List.mem_append.1 h1 with h2|h2
  ·have h3:=h.gone _ (by rw [List.take_of_length_le hk];exact h2)
   rw [(isOf_iff hg).2 ⟨e,he,rfl,rfl⟩] at h3
   cases h3
  ·exact h2
 ·have h1:=o.few
  rw [hm,List.length_append] at h1
  omega
theorem le_time {a b:It} (h:Exp.le a b):a.time≤b.time:=by
 unfold Exp.le Exp.lt at h
 rw [Bool.or_eq_false_iff] at h
 have:=of_decide_eq_false h.1
 omega
theorem ris_behind {m:List It} (h:Exp.Ris m) {j now:Nat} (hj:j < m.length→now < (Exp.look m j).time):∀ x ∈ m.drop j,now < x.time:=by
 intro x hx
 obtain ⟨q,hq,rfl⟩:=List.getElem_of_mem hx
 rw [List.length_drop] at hq
 rw [List.getElem_drop]
 have h1:=hj (by omega)
 rw [Exp.look_get (by omega)] at h1
 by_cases h0:q=0
 ·subst h0;exact h1
 ·have h2:=le_time (List.pairwise_iff_getElem.1 h j (j+q) (by omega) (by omega) (by omega))
  omega
def TickSays (w:World) (s:Bl) (B:Bk) (T:Tab) (i now:Nat) (e:Ending) (w':World):Prop:=∃ (c:Nat) (T':Tab),e = .returned (.int .i64 (c:Int))∧Made w s { B with bytes:=tot (all T') } T' i w'∧Ticks T T' now∧c+Key.cnt T'=Key.cnt T
theorem tick_any (h:BM w s B T m i) (o:Ok B T m i) (hi:i+1≤400) (now:Nat):Calls Tryz.prog 7 #[.pointer (some ⟨s.p,0,none⟩),.int .u64 (now:Int)] w fun e w'=>TickSays w s B T i now e w':=by
 have k8:w.cell? ⟨s.p,8,none⟩=some (.pointer (some ⟨s.hp,0,none⟩)):=h.cell 8
 have HDU:=Lib.hid (Exp.hdue_any h.heap now)
 have HH:=Lib.hid h
 have HO:=Lib.hid o
 have HRS:=Lib.hid (show Exp.Ris m from by obtain ⟨l,_,_,_,hr⟩:=h.heap;exact hr)
 have hm1:m.length≤400:=by have:=o.few;omega
 clear h o
 go_enter Tryz.func7,Tryz.ntmps7
 go_wp2_with fail
 refine HDU.out.mono ?_
 rintro e w2 ⟨n,x,v',rfl,hdue,hj⟩
 have hst2:=HH.out.step_heap hdue.heap hdue.but (.inl hdue.own)
 have hgone:∀ y ∈ m.take n,y.time≤now:=fun y hy=>by
  obtain ⟨q,hq,rfl⟩:=List.mem_take_iff_getElem.1 hy
  have:=hdue.gone q (by omega)
  rw [Exp.look_get (by omega)] at this
  exact this
 have HTM:=Lib.hid (And.intro hgone (ris_behind HRS.out hj))
 have hle:=hdue.le
 have hDl:(m.take n).length=n:=by rw [List.length_take];omega
 have hBe:({ B with bytes:=tot (all T) }:Bk)=B:=by have:=HO.out.bytes;rw [← this]
 have hSW:∀ g rest,Exp.IRow w2 68 g (m.take n) rest→w.heap.size≤g→Swp w s B T i g (m.take n) (m.drop n) rest 0 0 { s with hv:=v' } T w2:=fun g rest hr hg =>
  ⟨by rw [hBe];exact hst2.1,hr,hst2.2,fun hf=>by
   rcases hst2.2.new g hf with h1|h1
   ·have:=HH.out.lt g h1;omega
   ·have h2:=hst2.1.lt g hf
    rcases hf with e|e|e|e|e|e|e
    ·exact hr.blk.ne_ hst2.1.blk (by decide) e
    ·exact hr.blk.ne_ hst2.1.key.blk (by decide) e
    ·exact hr.blk.ne_ hst2.1.key.row (by decide) e
    ·obtain ⟨l,hA,_⟩:=hst2.1.heap
     exact hr.blk.ne_ hA.blk (by decide) e
    ·have e:v'.ownBlock=some g:=e
     rw [hdue.own] at e
     have:=HH.out.lt g (.inr (.inr (.inr (.inr (.inl e)))))
     omega
    ·exact hr.blk.ne_ hst2.1.tok.blk (by decide) e
    ·exact hst2.1.tok.ne hr.blk e.symm,HO.out.okt,fun e he=>he,fun x hx=>by simp at hx,fun e he => .inl he,by omega⟩
 have HSW:=Lib.hid hSW
 have HST2:=Lib.hid hst2
 have hrow:=hdue.row
 have HDL:=Lib.hid hDl
 clear hdue hj hst2 hgone hSW hBe HDU k8 hDl
 by_cases hz:n=0
 ·have hx0:∃ a c,x = .slice a 0 c:=by
   rcases hrow.2 with ⟨h1,h2⟩|⟨g,cap,cur,h1,_⟩
   ·exact ⟨none,0,h1⟩
   ·rw [hz] at h1;exact ⟨_,_,h1⟩
  obtain ⟨a,c,rfl⟩:=hx0
  subst hz
  have HM2:=Lib.hid (show BM w2 { s with hv:=v' } B T m i from HST2.out.1)
  have hst:=stale_any HM2.out HO.out
  have HSA:=Lib.hid (show Calls Tryz.prog 27 #[.pointer (some ⟨s.p,0,none⟩)] w2 fun e w'=>e = .returned (.tuple #[])∧Made w2 { s with hv:=v' } B T i w' from hst)
  clear hst hrow
  go_wp2_with fail
  go_loopw [5,15] (fun a b wr=>a = .int .i64 0∧b = .int .i64 0∧wr=w2) (fun _ _ _=>0)
  case atStart=>exact ⟨rfl,rfl,rfl⟩
  case round =>
   obtain ⟨rfl,rfl,rfl⟩:=hrel
   go_wp2_with fail
   refine HSA.out.mono ?_
   rintro e w3 ⟨rfl,hmade⟩
   have HE:=Lib.hid (show TickSays w s B T i now (.returned (.int .i64 0)) w3 from ⟨0,T,rfl,by
    rw [show ({ B with bytes:=tot (all T) }:Bk)=B from by have:=HO.out.bytes;rw [← this]]
    exact Made.trans HST2.out.2 hmade,fun e=>⟨fun he=>⟨he,by
     by_cases h0:e.exp=0
     ·exact .inl h0
     ·exact .inr (HTM.out.2 _ (by rw [List.drop_zero];exact HO.out.cov e he h0))⟩,fun he=>he.1⟩,by omega⟩)
   clear hmade
   go_wp2_with fail
   go_ret
   exact HE.out
 ·obtain ⟨g,cap,rest,rfl,hgl,hgc,hgb,hglt,hR⟩:=irow_of_own hrow (by omega)
  have HS0:=Lib.hid (HSW.out g rest hR hgb)
  obtain ⟨D,hD⟩:∃ D,D=m.take n:=⟨_,rfl⟩
  obtain ⟨m',hm'⟩:∃ d,d=m.drop n:=⟨_,rfl⟩
  rw [← hD] at HS0 HDL HTM
  rw [← hm'] at HS0 HTM
  have HMD:=Lib.hid (show m=D++m' from by rw [hD,hm',List.take_append_drop])
  clear hrow hgl hgb hglt hR hD hm' HSW
  go_wp2_with fail
  go_loopw [5,15] (fun a b wr=>∃ (k c:Nat) (s':Bl) (T':Tab),k≤n∧c≤k∧a = .int .i64 (c:Int)∧b = .int .i64 (k:Int)∧Swp w s B T i g D m' rest k c s' T' wr) (fun _ b _=>n - (intOf b).toNat)
  case atStart=>exact ⟨0,0,_,T,Nat.zero_le _,Nat.le_refl _,rfl,rfl,HS0.out⟩
  case round =>
   obtain ⟨k,c,s',T',hk,hck,rfl,rfl,hL⟩:=hrel
   have hpp:s'.p=s.p:=hL.step.p
   by_cases hlt:k < n
   ·have hki:(k:Int) < (n:Int):=by omega
    have hkD:k < D.length:=by rw [HDL.out];exact hlt
    have HL:=Lib.hid hL
    have hrg:=hL.row.range hkD
    have hin:=look_in hkD
    have hks:=(HO.out.okm _ (by rw [HMD.out];exact List.mem_append_left _ hin)).2
    have HSK:=Lib.hid (fun w2 (hh:Swp w s B T i g D m' rest k c s' T' w2)=>hh.skip hkD)
    have HTK:=Lib.hid (fun w2 w3 (hh:Swp w s B T i g D m' rest k c s' T' w2)=>hh.take (w2:=w3) hkD)
    obtain ⟨x,hx⟩:∃ x,x=Exp.look D k:=⟨_,rfl⟩
    rw [← hx] at hrg HSK HTK hks
    clear hx hin
    have e0:wr.cell? ⟨g,k * 2,none⟩=some (.int .u64 (x.time:Int)):=hrg 0 _ rfl
    have e1:wr.cell? ⟨g,k * 2+1,none⟩=some (.string x.key):=hrg 1 _ rfl
    clear hL hrg
    go_wp2_with fail
    have hLW:=HL.out.new ((But.refl (fun _=>False) wr).alloc (.cells (itB x) 68))
    have hxw:=Blk.new wr 68 (itB x)
    have his:=isof_any hLW.bm x (by omega)
    rw [hpp] at his
    have HW:=Lib.hid (And.intro hLW hxw)
    refine his.mono ?_
    rintro e w6 ⟨rfl,hb6⟩
    have HW6:=Lib.hid (And.intro (HW.out.1.new hb6) (HW.out.2.but hb6 (fun h=>h)))
    obtain ⟨b7,hb7⟩:∃ b,b=wr.heap.size:=⟨_,rfl⟩
    rw [← hb7] at HW6 ⊢
    clear hLW hxw his HW hb6 hb7 e0 e1
    cases hb:isOf T' x with
    | false =>
     have HS6:=Lib.hid (HSK.out _ HW6.out.1 hb)
     go_wp2_with fail
     go_roundw
     case rel=>exact ⟨k+1,c,s',T',by omega,by omega,rfl,by go_num,HS6.out⟩
     case measure=>simp [intOf];omega
    | true =>
     have y1:w6.cell? ⟨b7,1,none⟩=some (.string x.key):=HW6.out.2.cell 1
     have htk:=take_any HW6.out.1.bm rfl HW6.out.1.okt x.key (by omega) hi
     rw [hpp] at htk
     have HTA:=Lib.hid htk
     clear htk
     go_wp2_with fail
     refine HTA.out.mono ?_
     rintro e w7 ⟨rfl,hm7,hs7⟩
     have HS7:=Lib.hid (HTK.out w6 w7 HW6.out.1 hb hm7 hs7)
     clear hm7 hs7
     go_wp2_with fail
     go_roundw
     case rel=>exact ⟨k+1,c+1,s',_,by omega,by omega,by go_num,by go_num,HS7.out⟩
     case measure=>simp [intOf];omega
   ·have hkn:k=n:=by omega
    subst hkn
    have hdn:=hL.done (by rw [HDL.out];exact Nat.le_refl _) HO.out now HMD.out HTM.out.1 HTM.out.2
    have hst:=stale_any hL.bm hdn.2
    rw [hpp] at hst
    have HSA:=Lib.hid hst
    have HTI:=Lib.hid (And.intro hdn.1 (And.intro hL.step hL.cnt))
    clear hst hdn hL
    go_wp2_with fail
    refine HSA.out.mono ?_
    rintro e w8 ⟨rfl,hmade⟩
    have HE:=Lib.hid (show TickSays w s B T i now (.returned (.int .i64 (c:Int))) w8 from ⟨c,T',rfl,Made.trans HTI.out.2.1 hmade,HTI.out.1,HTI.out.2.2⟩)
    clear hmade
    go_wp2_with fail
    go_ret
    exact HE.out
end
end Go.Proofs.YtgjofinbdigmcaaGreat.Buk
end
section
namespace Go.Proofs
open Go.Shelf
def Tryz.lays106_ren:Go.Shelf.Ren:=⟨fun|106=>89|213=>105|265=>123|n=>n,fun|9=>9|3=>3|n=>n,fun|n=>n⟩
theorem Tryz.lays106:Go.Proofs.Lays.n106 Tryz.prog Tryz.lays106_ren:={
 mixed:=by kernel_rfl
 f106:=Tryz.func89.trans (congrArg some (by kernel_rfl))
 f213:=Tryz.func105.trans (congrArg some (by kernel_rfl))
 f265:=Tryz.func123.trans (congrArg some (by kernel_rfl))
 t3:=Tryz.underlying3
 a3:=Tryz.isAgg3
 z3:=Tryz.sizeOf3
 v3:=Tryz.zeroValue3
 t9:=Tryz.underlying9
 a9:=Tryz.isAgg9
 z9:=Tryz.sizeOf9
 v9:=Tryz.zeroValue9 }
open Go.RowKit in
theorem Tryz.strings_Compare (a b:ByteArray) (w:World) :
  Calls Tryz.prog 89 #[.string a,.string b] w fun e w'=>e = .returned (.int .i64 (Lib.compareBytes a.data.toList b.data.toList))∧w'=w:=Any.strings_Compare Tryz.lays106 a b w
end Go.Proofs
end
section
namespace Go.Proofs
open Go.Shelf
def Tryz.sortEnt_ren:Go.Shelf.Ren:=⟨fun|6=>87|15=>104|14=>103|28=>121|29=>122|20=>113|21=>114|22=>115|23=>116|24=>117|25=>118|26=>119|27=>120|46=>128|47=>129|48=>130|49=>131|50=>132|57=>142|n=>n,fun|22=>85|24=>45|25=>141|3=>3|39=>120|0=>0|53=>22|55=>26|4=>4|46=>170|45=>169|50=>48|5=>5|9=>9|66=>179|70=>183|76=>191|77=>192|n=>n,fun|n=>n⟩
theorem Tryz.sortEnt:Go.Proofs.SlLaysF0.n6 Tryz.prog Tryz.sortEnt_ren:={
 mixed:=by kernel_rfl
 f6:=⟨Tryz.f87.name,by decide,Tryz.func87.trans (congrArg some (by kernel_rfl))⟩
 f14:=⟨Tryz.f103.name,by decide,Tryz.func103.trans (congrArg some (by kernel_rfl))⟩
 f15:=Tryz.func104.trans (congrArg some (by kernel_rfl))
 f20:=⟨Tryz.f113.name,by decide,Tryz.func113.trans (congrArg some (by kernel_rfl))⟩
 f21:=⟨Tryz.f114.name,by decide,Tryz.func114.trans (congrArg some (by kernel_rfl))⟩
 f22:=⟨Tryz.f115.name,by decide,Tryz.func115.trans (congrArg some (by kernel_rfl))⟩
 f23:=⟨Tryz.f116.name,by decide,Tryz.func116.trans (congrArg some (by kernel_rfl))⟩
 f24:=⟨Tryz.f117.name,by decide,Tryz.func117.trans (congrArg some (by kernel_rfl))⟩
 f25:=⟨Tryz.f118.name,by decide,Tryz.func118.trans (congrArg some (by kernel_rfl))⟩
 f26:=⟨Tryz.f119.name,by decide,Tryz.func119.trans (congrArg some (by kernel_rfl))⟩
 f27:=⟨Tryz.f120.name,by decide,Tryz.func120.trans (congrArg some (by kernel_rfl))⟩
 f28:=Tryz.func121.trans (congrArg some (by kernel_rfl))
 f29:=Tryz.func122.trans (congrArg some (by kernel_rfl))
 f46:=⟨Tryz.f128.name,by decide,Tryz.func128.trans (congrArg some (by kernel_rfl))⟩
 f47:=Tryz.func129.trans (congrArg some (by kernel_rfl))
 f48:=Tryz.func130.trans (congrArg some (by kernel_rfl))
 f49:=⟨Tryz.f131.name,by decide,Tryz.func131.trans (congrArg some (by kernel_rfl))⟩
 f50:=⟨Tryz.f132.name,by decide,Tryz.func132.trans (congrArg some (by kernel_rfl))⟩
 f57:=⟨Tryz.f142.name,by decide,Tryz.func142.trans (congrArg some (by kernel_rfl))⟩
 t0:=Tryz.underlying0
 a0:=Tryz.isAgg0
 z0:=Tryz.sizeOf0
 v0:=Tryz.zeroValue0
 t3:=Tryz.underlying3
 a3:=Tryz.isAgg3
 z3:=Tryz.sizeOf3
 v3:=Tryz.zeroValue3
 t4:=Tryz.underlying4
 a4:=Tryz.isAgg4
 z4:=Tryz.sizeOf4
 v4:=Tryz.zeroValue4
 t5:=Tryz.underlying5
 a5:=Tryz.isAgg5
 z5:=Tryz.sizeOf5
 v5:=Tryz.zeroValue5
 t9:=Tryz.underlying9
 a9:=Tryz.isAgg9
 z9:=Tryz.sizeOf9
 v9:=Tryz.zeroValue9
 t22:=Tryz.underlying85
 a22:=Tryz.isAgg85
 z22:=Tryz.sizeOf85
 v22:=Tryz.zeroValue85
 t25:=Tryz.underlying141
 a25:=Tryz.isAgg141
 z25:=Tryz.sizeOf141
 v25:=Tryz.zeroValue141
 t39:=Tryz.underlying120
 a39:=Tryz.isAgg120
 z39:=Tryz.sizeOf120
 v39:=Tryz.zeroValue120
 t45:=Tryz.underlying169
 a45:=Tryz.isAgg169
 z45:=Tryz.sizeOf169
 v45:=Tryz.zeroValue169
 t46:=Tryz.underlying170
 a46:=Tryz.isAgg170
 z46:=Tryz.sizeOf170
 v46:=Tryz.zeroValue170
 t50:=Tryz.underlying48
 a50:=Tryz.isAgg48
 z50:=Tryz.sizeOf48
 v50:=Tryz.zeroValue48
 t53:=Tryz.underlying22
 a53:=Tryz.isAgg22
 z53:=Tryz.sizeOf22
 v53:=Tryz.zeroValue22
 t55:=Tryz.underlying26
 a55:=Tryz.isAgg26
 z55:=Tryz.sizeOf26
 v55:=Tryz.zeroValue26
 t66:=Tryz.underlying179
 a66:=Tryz.isAgg179
 z66:=Tryz.sizeOf179
 v66:=Tryz.zeroValue179
 t70:=Tryz.underlying183
 a70:=Tryz.isAgg183
 z70:=Tryz.sizeOf183
 v70:=Tryz.zeroValue183
 t76:=Tryz.underlying191
 a76:=Tryz.isAgg191
 z76:=Tryz.sizeOf191
 v76:=Tryz.zeroValue191
 t77:=Tryz.underlying192
 a77:=Tryz.isAgg192
 z77:=Tryz.sizeOf192
 v77:=Tryz.zeroValue192 }
end Go.Proofs
end
section
namespace Go.Proofs.YtgjofinbdigmcaaGreat.Key
open Go.Proofs.YtgjofinbdigmcaaGreat.Mem Go.Proofs.YtgjofinbdigmcaaGreat.Fnv
open Go.ChangeShapes Go.WideShapes Go.ChangeAt Go.RowKit Go.Proofs Go.Shelf
instance:Inhabited Ent:=⟨zero⟩
def ecl (l:List Ent):List Value:=l.flatMap ecells
theorem ecl_snoc (l:List Ent) (e:Ent):ecl (l++[e])=ecl l++ecells e:=by unfold ecl;rw [List.flatMap_append];simp
structure Ents (w:World) (a:Option Addr) (l:List Ent):Prop where
 at_:∃ g,a=some ⟨g,0,none⟩∧g < w.heap.size∧∀ i (h:i < l.length) j,j < 7→w.cell? ⟨g,i * 7+j,none⟩=(ecells l[i])[j]?
def cmp (a b:List UInt8):Int:=Lib.compareBytes a b
theorem cmp_self:∀ a,cmp a a=0
 | []=>rfl
 | x :: a=>by
  have h:=cmp_self a
  unfold cmp at h ⊢
  rw [Lib.compareBytes,if_neg (by simp),if_neg (by simp)]
  exact h
theorem cmp_anti:∀ a b,cmp b a = - cmp a b
 | [],[]=>rfl
 | [],_ :: _=>rfl
 | _ :: _,[]=>rfl
 | x :: a,y :: b=>by
  have h:=cmp_anti a b
  unfold cmp at h ⊢
  rw [Lib.compareBytes,Lib.compareBytes]
  simp only [UInt8.lt_iff_toNat_lt]
  by_cases h1:x.toNat < y.toNat
  ·rw [if_neg (by omega),if_pos h1,if_pos h1]
   decide
  ·by_cases h2:y.toNat < x.toNat
   ·rw [if_pos h2,if_neg h1,if_pos h2]
   ·rw [if_neg h2,if_neg h1,if_neg h1,if_neg h2];exact h
theorem cmp_trans:∀ a b c,cmp a b≤0→cmp b c≤0→cmp a c≤0∧(cmp a b < 0∨cmp b c < 0→cmp a c < 0)
 | [],[],[],_,_=>⟨by decide,fun h=>by revert h;decide⟩
 | [],_,_ :: _,_,_=>⟨by unfold cmp;rw [Lib.compareBytes];decide,fun _=>by unfold cmp;rw [Lib.compareBytes];decide⟩
 | [],_ :: _,[],_,h=>by unfold cmp at h;rw [Lib.compareBytes] at h;omega
 | _ :: _,[],_,h,_=>by unfold cmp at h;rw [Lib.compareBytes] at h;omega
 | _ :: _,_ :: _,[],_,h=>by unfold cmp at h;rw [Lib.compareBytes] at h;omega
 | x :: a,y :: b,z :: c,h1,h2=>by
  have ih:=cmp_trans a b c
  unfold cmp at h1 h2 ih ⊢
  rw [Lib.compareBytes] at h1 h2
  rw [Lib.compareBytes,Lib.compareBytes,Lib.compareBytes]
  simp only [UInt8.lt_iff_toNat_lt] at *
  by_cases e1:x.toNat < y.toNat
  ·by_cases e2:y.toNat < z.toNat
   ·simp only [if_pos e1,if_pos e2,if_pos (show x.toNat < z.toNat by omega)];omega
   ·by_cases e3:z.toNat < y.toNat
    ·rw [if_neg e2,if_pos e3] at h2;omega
    ·simp only [if_pos (show x.toNat < z.toNat by omega)];omega
  ·by_cases e2:y.toNat < x.toNat
   ·rw [if_neg e1,if_pos e2] at h1;omega
   ·rw [if_neg e1,if_neg e2] at h1
    by_cases e3:y.toNat < z.toNat
    ·simp only [if_pos (show x.toNat < z.toNat by omega)];omega
    ·by_cases e4:z.toNat < y.toNat
     ·rw [if_neg e3,if_pos e4] at h2;omega
     ·rw [if_neg e3,if_neg e4] at h2
      simp only [if_neg e1,if_neg e2,if_neg e3,if_neg e4,if_neg (show ¬ x.toNat < z.toNat by omega),if_neg (show ¬ z.toNat < x.toNat by omega)]
      exact ih h1 h2
def kc (x y:Ent):Int:=cmp x.key.data.toList y.key.data.toList
def rises (l:List Ent):Prop:=l.Pairwise fun x y=>¬ kc y x < 0
theorem kc_swo:Go.Sort.SWO (ltOf kc) where
 irrefl x:=by unfold ltOf kc;rw [cmp_self];rfl
 trans x y z h1 h2:=by
  simp only [ltOf,decide_eq_true_eq] at *
  exact (cmp_trans _ _ _ (Int.le_of_lt h1) (Int.le_of_lt h2)).2 (.inl h1)
 ntrans x y z h1 h2:=by
  simp only [ltOf,decide_eq_false_iff_not] at *
  unfold kc at *
  have a1:=cmp_anti x.key.data.toList y.key.data.toList
  have a2:=cmp_anti y.key.data.toList z.key.data.toList
  have a3:=cmp_anti x.key.data.toList z.key.data.toList
  have:=(cmp_trans z.key.data.toList y.key.data.toList x.key.data.toList (by omega) (by omega)).1
  omega
theorem closure_cmp (x y:Ent) (W:World):Calls Tryz.prog 88 #[.agg (ecells x).toArray,.agg (ecells y).toArray] W fun e w'=>e = .returned (.int .i64 (kc x y))∧∃ q os',w'=Go.Sort.grow (W.drewN q) os':=by
 have hcon:=fun W'=>Tryz.strings_Compare x.key y.key W'
 change ∀ W',Calls Tryz.prog 89 _ _ (fun e w'=>e = .returned (.int .i64 (kc x y))∧w'=W') at hcon
 have HC:=Lib.hid hcon
 generalize kc x y=r at HC ⊢
 clear hcon
 change Calls _ _ #[.agg #[.string x.key,.int .i64 x.seg,.int .i64 x.at_,.int .i64 x.len,.int .u64 (x.ver:Int),.int .u64 (x.exp:Int),.int .i64 x.size],.agg #[.string y.key,.int .i64 y.seg,.int .i64 y.at_,.int .i64 y.len,.int .u64 (y.ver:Int),.int .u64 (y.exp:Int),.int .i64 y.size]] W _
 go_enter Tryz.func88,Tryz.ntmps88
 go_wp2_with fail
 refine (HC.out _).mono ?_
 rintro e w' ⟨rfl,rfl⟩
 go_wp2_with fail
 go_ret
 exact ⟨rfl,0,_,by rw [Go.Sort.alloc_eq_grow,Go.Sort.alloc_eq_grow,Go.Sort.grow_grow];rfl⟩
theorem but_sort {α:Type} [Inhabited α] (enc:α→List Value) (k:Nat) (w:World) (blk off n:Nat) (d:Array α) (os:Array Obj):But (fun k=>k=blk) w (sortWorldK enc k w blk off n d os):=by
 refine ⟨rfl,rfl,rfl,?_,fun j hj hne=>?_⟩
 ·show w.heap.size≤((w.heap.modify blk _)++os).size
  rw [Array.size_append,Array.size_modify];omega
 ·show ((w.heap.modify blk _)++os)[j]?=w.heap[j]?
  rw [Array.getElem?_append_left (by rw [Array.size_modify];exact hj),Array.getElem?_modify,if_neg (Ne.symm hne)]
theorem ksort_any {w:World} {base:Nat} (g cap:Nat) (L:List Ent) (ho:w.ownsRow base 45 7 (.slice (some ⟨g,0,none⟩) L.length cap) L.length (ecl L)) (hl:L.length≤100000) :
  Calls Tryz.prog 87 #[.slice (some ⟨g,0,none⟩) L.length cap,.func (.func 88) #[] #[]] w fun e w'=>e = .returned (.tuple #[])∧∃ L',L'.Perm L∧rises L'∧Ents w' (some ⟨g,0,none⟩) L'∧But (fun k=>k=g) w w':=by
 obtain ⟨cur,hblk,hcur⟩:∃ cur:Array Value,Blk w g 45 cur∧True:=by
  rcases ho.2 with ⟨h,_⟩|⟨g',cap',cur,hv,hg,hh,_⟩
  ·cases h
  ·injection hv with hv
   injection hv with hv
   injection hv with hv
   subst hv
   exact ⟨cur,hh,trivial⟩
 have hget:∀ j,j < L.length * 7→(ecl L)[j]?=some ((Go.Sort.flatK ecells 7 L.toArray)[j]!):=by
  intro j hj
  have hd:j / 7 < L.length:=by omega
  have h1:=flat_get (f:=ecells) ecells_length (l:=L) (i:=j / 7) (j:=j % 7) (x:=L[j / 7]) (List.getElem?_eq_getElem hd) (by omega)
  rw [show j / 7 * 7+j % 7=j by omega] at h1
  show (L.flatMap ecells)[j]?=_
  rw [h1,Go.Sort.get_flatK _ _ _ _ (by simpa using hj)]
  have h2:(L.toArray)[j / 7]! = L[j / 7]:=by rw [getElem!_pos L.toArray (j / 7) (by simpa using hd)];simp
  rw [h2]
  have h3:j % 7 < (ecells L[j / 7]).length:=by rw [ecells_length];omega
  rw [getElem!_pos (ecells L[j / 7]) (j % 7) h3]
  exact List.getElem?_eq_getElem h3
 have hH:Go.Sort.HoldsK ecells 7 w g 0 L.toArray:=by
  intro j hj
  rw [Go.Sort.size_flatK] at hj
  have hj':j < L.length * 7:=by simpa using hj
  refine ⟨?_,hblk.frozen _⟩
  rw [Nat.zero_add,ho.cellAt j hj']
  exact hget j hj'
 have eg:∀ args w,(callFunc 88 args).run Tryz.prog w = .ok (.enter 88 args) w:=enters_of Tryz.func88 (by kernel_rfl) rfl
 have hcon:=AnyQ.slices_SortFunc Tryz.sortEnt 7 Tryz.isAgg45 Tryz.sizeOf45 ecells ecells_length ecells_one kc kc_swo 88 #[] g 0 cap L.toArray w eg (fun _ _ _ _ x y=>closure_cmp x y _) hH hblk.lt (by simp;omega)
 rw [show L.toArray.size=L.length from by simp] at hcon
 refine Calls.mono hcon ?_
 rintro e w' ⟨rfl,d',n,os,hp,hs,rfl⟩
 refine ⟨rfl,d'.toList,?_,?_,⟨g,rfl,?_,?_⟩,but_sort _ _ _ _ _ _ _ _⟩
 ·have h1:=hp.2.2
  have h0:=hp.1
  have e1:d'.extract 0 L.length=d':=Array.extract_eq_self_of_le (by rw [h0];simp)
  have e2:L.toArray.extract 0 L.length=L.toArray:=Array.extract_eq_self_of_le (by simp)
  rw [e1,e2] at h1
  exact h1
 ·have h0:=hp.1
  unfold rises;rw [List.pairwise_iff_getElem]
  intro i j hi hj hij
  have h1:=hs i j (Nat.zero_le _) hij (by simpa [h0] using hj)
  rw [getElem!_pos d' i (by simpa using hi),getElem!_pos d' j (by simpa using hj)] at h1
  simpa [ltOf] using h1
 ·exact lt_sortWorldK _ _ _ _ _ _ _ _ hblk.lt
 ·intro i h j hj
  have h0:=hp.1
  have hk:=holdsK_sortWorldK ecells 7 w g 0 n L.toArray d' os hblk.lt hH h0
  have h2:=hk (i * 7+j) (by rw [Go.Sort.size_flatK];simp at h;omega)
  rw [Nat.zero_add] at h2
  rw [h2.1,Go.Sort.get_flatK _ _ _ _ (by simp at h;omega),show (i * 7+j) / 7=i by omega,show (i * 7+j) % 7=j by omega]
  have h3:d'[i]! = d'.toList[i]:=by rw [getElem!_pos d' i (by simpa using h)];simp
  rw [h3]
  have h4:j < (ecells d'.toList[i]).length:=by rw [ecells_length];exact hj
  rw [getElem!_pos (ecells d'.toList[i]) j h4]
  exact (List.getElem?_eq_getElem h4).symm
end Go.Proofs.YtgjofinbdigmcaaGreat.Key
end
section
namespace Go.Proofs.YtgjofinbdigmcaaGreat.Key
open Go.Proofs.YtgjofinbdigmcaaGreat.Mem Go.Proofs.YtgjofinbdigmcaaGreat.Fnv
open Go.ChangeShapes Go.WideShapes Go.ChangeAt Go.RowKit
def ents (T:Tab) (k:Nat):List Ent:=(T.take k).filterMap id
theorem ents_none {T:Tab} {k:Nat} (h:k < T.length) (he:look T k=none):ents T (k+1)=ents T k:=by
 unfold ents
 rw [take_look h,List.filterMap_append,he]
 simp
theorem ents_some {T:Tab} {k:Nat} {e:Ent} (h:k < T.length) (he:look T k=some e):ents T (k+1)=ents T k++[e]:=by
 unfold ents
 rw [take_look h,List.filterMap_append,he]
 simp
theorem ents_length (T:Tab):(ents T T.length).length=cnt T:=by
 unfold ents cnt
 rw [List.take_of_length_le (Nat.le_refl _)]
 induction T with
 | nil=>rfl
 | cons o T ih=>cases o <;> simp [List.filterMap_cons,List.countP_cons,ih]
theorem ents_le (T:Tab) (k:Nat):(ents T k).length≤k:=by
 unfold ents
 have h1:=List.length_filterMap_le id (T.take k)
 have h2:=List.length_take_le k T
 omega
theorem entry_info:(Tryz.prog.info? 45).map (fun i=>(i.zero,i.size,i.bytes))=some (some (.agg (ecells zero).toArray),7,64):=by kernel_rfl
theorem sees_ent (w:World) (e:Ent) (t:TypeId) (fr:Nat × Nat) (g:Nat) (hg:g=w.heap.size):Sees (w.alloc (.cells (ecells e).toArray t fr)) 7 (.slice (some ⟨g,0,none⟩) 1 1) 1 (ecells e):=by
 subst hg
 refine .inr ⟨_,_,rfl,by simp [ecells_length],fun j x hx=>?_⟩
 refine ⟨by simp,?_⟩
 rw [add_none,Nat.zero_add,World.cell?_alloc_mark]
 simpa using hx
section
variable {w:World} {p g i kn n:Nat} {T:Tab}
theorem kents_any (h:KAt w p g T i (cnt T)) :
  Calls Tryz.prog 67 #[.pointer (some ⟨p,0,none⟩)] w fun e w'=>∃ a cap L,e = .returned (.slice a L.length cap)∧L.Perm (ents T T.length)∧rises L∧Ents w' a L∧But (fun _=>False) w w'∧(∀ g o,a=some ⟨g,o,none⟩→w.heap.size≤g):=by
 obtain ⟨l1,l2⟩:=h.lt
 have c0:w.cell? ⟨p,0,none⟩=some (.slice (some ⟨g,0,none⟩) T.length T.length):=h.blk.cell 0
 have c1:w.cell? ⟨p,1,none⟩=some (.int .i64 (cnt T:Int)):=h.blk.cell 1
 have HK:=Lib.hid h
 have hc:=cnt_le T
 obtain ⟨i0,hi0,hz⟩:=Option.map_eq_some_iff.1 entry_info
 simp only [Prod.mk.injEq] at hz
 obtain ⟨hz0,hz1,hz2⟩:=hz
 obtain ⟨n,hn⟩:∃ n,n=T.length:=⟨_,rfl⟩
 have HN:=Lib.hid hn
 obtain ⟨m,hm⟩:∃ m,m=cnt T:=⟨_,rfl⟩
 rw [← hn] at c0 l1 l2 hc
 rw [← hm] at c1 hc
 have HCK:=Lib.hid (fun w1 (hg:w.grownBy w1 none)=>show w1.cell? ⟨p,0,none⟩=some (.slice (some ⟨g,0,none⟩) n n) from by
  rw [← c0]
  exact (But.of_grown hg).cell h.blk.lt (fun h=>by cases h))
 clear h hn hm
 go_enter Tryz.func67,Tryz.ntmps67
 go_wp2_with (at_make;refine wpList_make_own _ rfl _ _ 85 rfl w.heap.size 45 i0 _ 7 Tryz.underlying85 hi0 hz0 hz1 .i64 .i64 (m:Int) m rfl rfl (by omega) (by rw [hz2];omega) (by unfold maxLen;omega) (Nat.le_refl _) ?_;intro w1 ho1 hg1;have k0:=HCK.out w1 hg1;clear c0 c1)
 have HO1:=Lib.hid ho1
 have HB1:=Lib.hid (show But (fun _=>False) w w1 from (But.of_grown hg1).mono (fun j hj h=>by cases h))
 clear ho1 hg1 k0
 go_loopw [3,16] (fun v x wr=>∃ k g c:Nat,k≤n∧x = .int .i64 (k:Int)∧v = .slice (some ⟨g,0,none⟩) (ents T k).length c∧wr.ownsRow w.heap.size 45 7 v (ents T k).length (ecl (ents T k))∧But (fun _=>False) w wr) (fun _ x _=>n - (intOf x).toNat)
 case atStart=>exact ⟨0,_,_,by omega,rfl,rfl,HO1.out,HB1.out⟩
 case round =>
  obtain ⟨k,r,c,hk,rfl,rfl,hO,hB⟩:=hrel
  have hnn:=HN.out
  have HO:=Lib.hid hO
  have HB:=Lib.hid hB
  have hel:=ents_le T k
  by_cases hlt:k < n
  ·have hkl:k < T.length:=by omega
   have hR:=row_range (HK.out.but hB (fun h=>h) (fun h=>h)).row hkl
   have HSN:=Lib.hid (fun h=>ents_none (T:=T) hkl h)
   have HSS:=Lib.hid (fun e h=>ents_some (T:=T) (e:=e) hkl h)
   obtain ⟨q,hq⟩:∃ q,q=look T k:=⟨_,rfl⟩
   rw [← hq] at hR HSN HSS
   have HR:=Lib.hid hR
   have HX:=Lib.hid (show Blk (wr.alloc (.cells (pcells none).toArray 118)) wr.heap.size 118 (pcells none).toArray from Blk.new _ _ _)
   have HX0:=Lib.hid (blk_set0 (vs:=pcells q) HX.out (by rw [pcells_length,pcells_length]))
   have hbb:But (fun k=>k=wr.heap.size) wr ((wr.alloc (.cells (pcells none).toArray 118)).setCells wr.heap.size 0 (pcells q)):=((But.refl (fun k=>k=wr.heap.size) wr).alloc _).trans' (but_setCells _ _ _ _)
   have HO2:=Lib.hid (ownsRow_but hO hbb (fun j hj e=>by have:=(hO.lt j hj).2;omega))
   have HB2:=Lib.hid (hB.trans hbb (fun j hj e=>by have:=hB.size;omega))
   have HY0:=Lib.hid (show ((wr.alloc (.cells (pcells none).toArray 118)).setCells wr.heap.size 0 (pcells q)).cell? ⟨wr.heap.size,0,none⟩=some (.bool q.isSome) from by rw [HX0.out.cell 0,pcells_eq];rfl)
   clear hO hB hR hbb hkl hq hnn
   obtain ⟨m0,hm0⟩:∃ m0,m0=(ents T k).length:=⟨_,rfl⟩
   rw [← hm0] at HO2 HO hel ⊢
   have HM0:=Lib.hid hm0
   clear hm0
   cases q with
   | none =>
    go_wp2_with (first
     | (refine wpList_load_mid rfl 118 _ rfl g (k * 8) rfl (pcells none) _ HR.out Tryz.underlying118 rfl (by rw [pcells_length];exact place_size) ?_)
     | (refine wpList_store_mid rfl 118 _ _ rfl wr.heap.size 0 (pcells none).toArray rfl rfl (blk_there0 HX.out (by rw [pcells_length];simp [pcells_length])) (by simp only [List.size_toArray,pcells_length];exact place_size) (all_oneCell_toArray (pcells_one none)) ?_
        change wpList _ _ _ _ _ ((wr.alloc (.cells (pcells none).toArray 118)).setCells wr.heap.size 0 (pcells none))
        generalize (wr.alloc (.cells (pcells none).toArray 118)).setCells wr.heap.size 0 (pcells none)=W2 at HX0 HO2 HB2 HY0 ⊢
        have y0:=HY0.out))
    go_roundw
    case rel =>
     refine ⟨k+1,r,c,by omega,by go_num,?_,?_,HB2.out⟩
     ·rw [HSN.out rfl,← HM0.out]
     ·rw [HSN.out rfl,← HM0.out];exact HO2.out
    case measure=>simp [intOf];omega
   | some e =>
    have HRE:=Lib.hid (box_entry HX0.out)
    go_wp2_with (first
     | (refine wpList_load_mid rfl 118 _ rfl g (k * 8) rfl (pcells (some e)) _ HR.out Tryz.underlying118 rfl (by rw [pcells_length];exact place_size) ?_)
     | (refine wpList_store_mid rfl 118 _ _ rfl wr.heap.size 0 (pcells (some e)).toArray rfl rfl (blk_there0 HX.out (by rw [pcells_length];simp [pcells_length])) (by simp only [List.size_toArray,pcells_length];exact place_size) (all_oneCell_toArray (pcells_one (some e))) ?_
        change wpList _ _ _ _ _ ((wr.alloc (.cells (pcells none).toArray 118)).setCells wr.heap.size 0 (pcells (some e)))
        obtain ⟨x,hx⟩:∃ x,x=wr.heap.size:=⟨_,rfl⟩
        rw [← hx] at HX0 HO2 HB2 HY0 HRE ⊢
        clear hx HX
        generalize (wr.alloc (.cells (pcells none).toArray 118)).setCells x 0 (pcells (some e))=W2 at HX0 HO2 HB2 HY0 HRE ⊢
        have y0:=HY0.out)
     | (refine wpList_load_mid rfl 45 _ rfl x 1 rfl [.string e.key,.int .i64 e.seg,.int .i64 e.at_,.int .i64 e.len,.int .u64 (e.ver:Int),.int .u64 (e.exp:Int),.int .i64 e.size] _ HRE.out Tryz.underlying45 rfl entry_size ?_)
     | (at_builtin;refine wpList_append_onto rfl (.tmp 22) (.tmp 25) _ rfl w.heap.size 45 i0 _ 7 64 Tryz.underlying85 hi0 hz0 hz1 hz2 rfl (by omega) (.slice (some ⟨r,0,none⟩) m0 c) m0 (ecl (ents T k)) rfl (ownsRow_alloc HO2.out _) (.slice (some ⟨W2.heap.size,0,none⟩) 1 1) 1 (ecells e) rfl (sees_ent _ e _ _ _ rfl) (ecells_one e) (by simp only [maxLen];omega) (by omega) (by rw [alloc_size];have:=HB2.out.size;omega) ?_;intro v5 w5 ho5 hon5))
    rw [← ecl_snoc] at ho5
    obtain ⟨r5,c5,rfl,hnc⟩:∃ g c,v5 = .slice (some ⟨g,0,none⟩) (m0+1) c∧True:=by
     rcases ho5.2 with ⟨_,h⟩|⟨g,cap,cur,hv,_⟩
     ·omega
     ·exact ⟨g,cap,hv,trivial⟩
    have hon:=hon5.of_alloc (fun k hk=>(HO2.out.lt k hk).2)
    have HB5:=Lib.hid (HB2.out.trans hon.but (fun j hj e=>by have:=HO2.out.lt j e.symm;omega))
    have HO5:=Lib.hid ho5
    clear ho5 hnc hon hon5
    go_roundw
    case rel =>
     have hl:(ents T (k+1)).length=m0+1:=by rw [HSS.out e rfl,List.length_append,← HM0.out];rfl
     refine ⟨k+1,r5,c5,by omega,by go_num,?_,?_,HB5.out⟩
     ·rw [hl]
     ·rw [hl,HSS.out e rfl];exact HO5.out
    case measure=>simp [intOf];omega
  ·have hkn:k=n:=by omega
   have hkt:k=T.length:=by omega
   have hO2:=hO
   rw [hkt] at hO2
   have hlen:=ents_length T
   have hcl:=cnt_le T
   have hS:=ksort_any r c (ents T T.length) hO2 (by omega)
   have HS:=Lib.hid hS
   have hrr:=(hO.lt r rfl).1
   have HRR:=Lib.hid hrr
   have HL:=Lib.hid (show (ents T k).length=(ents T T.length).length by rw [hkt])
   obtain ⟨m0,hm0⟩:∃ m0,m0=(ents T k).length:=⟨_,rfl⟩
   rw [← hm0] at HL ⊢
   have HL2:=Lib.hid HL.out.symm
   rw [HL2.out] at HS
   clear hO2 hO hB hS hnn hlen hcl hkt hrr hm0 HL HO
   go_wp2_with fail
   refine HS.out.mono ?_
   rintro e W4 ⟨rfl,L,hp,hr,he,hb⟩
   have HE:=Lib.hid (And.intro hp (And.intro hr (And.intro he (HB.out.trans hb (fun j hj e=>by have:=HRR.out;omega)))))
   have HLL:=Lib.hid (show m0=L.length by rw [hp.length_eq,HL2.out])
   clear hp hr he hb
   go_wp2_with fail
   go_ret
   exact ⟨_,c,L,by rw [← HLL.out];rfl,HE.out.1,HE.out.2.1,HE.out.2.2.1,HE.out.2.2.2,fun g o e=>by injection e with e;injection e with e1 e2;rw [← e1];exact HRR.out⟩
end
end Go.Proofs.YtgjofinbdigmcaaGreat.Key
end
