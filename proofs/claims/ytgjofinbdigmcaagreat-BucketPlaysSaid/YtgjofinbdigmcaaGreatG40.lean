/- The program's bucket and the document's, side by side. A record, and a slice of records, that came in, opened to their cells. Deeds that came in, opened to their cells. What a record makes, told; the law's up and the document's Quota. -/
import Derived.Test.YtgjofinbdigmcaaGreatG39
import Derived.Test.YtgjofinbdigmcaaGreatG32
import Derived.Test.YtgjofinbdigmcaaGreatG18
import Derived.Deep.Slices
import Derived.Deep.Fields
import Derived.ChangeSame
import Derived.OpenShut
import Derived.ShutString
import Derived.Test.YtgjofinbdigmcaaGreatG23
import Derived.Test.YtgjofinbdigmcaaGreatG29
set_option linter.unusedSimpArgs false
set_option linter.unusedVariables false
set_option maxHeartbeats 2000000
set_option maxRecDepth 100000
section
namespace Go.Proofs.YtgjofinbdigmcaaGreat.Buk
open Go.Proofs.YtgjofinbdigmcaaGreat.Mem
open Go.ChangeShapes Go.WideShapes Go.ChangeAt Go.RowKit
section
variable {w w':World} {rp i:Nat} {kv tv:Value} {s s':Bl} {B B':Bk} {T:Tab} {m:List It} {Ks:List RK}
theorem rm_step (g:RM w rp kv tv B Ks) (h:BM w s B' T m i) (st:But (Foot s) w w'):RM w' rp kv tv B Ks :=
 g.but st (h.no g.blk (by decide)) (fun k hk hf=>by
  obtain ⟨cs,hb⟩:=own_type g.keys hk
  exact h.no hb (by decide) hf) (fun k hk hf=>by
  obtain ⟨cs,hb⟩:=own_type g.toks hk
  exact h.no hb (by decide) hf)
theorem bm_ref (h:BM w s B T m i) (g:RM w rp kv tv B' Ks) (hb:But (fun k=>k=rp) w w'):BM w' s B T m i :=
 h.but hb (fun k hk e=>h.no g.blk (by decide) (e ▸ hk))
theorem okx_of (hr:Rep T Ks) (ho:OkT T):∀ x ∈ Ks,OkX x:=fun x hx=>by
 have he:=ho (entK x) ((hr.mem _).2 ⟨x,hx,rfl⟩)
 exact ⟨he.key,by have:=he.size;unfold entK at this;simp at this;omega,he.ver,he.exp⟩
theorem rm_app {r:Rcd} {p:Spt} (g:RM w rp kv tv (bapp B r) Ks):RM w rp kv tv (app B T r p) Ks:=by
 unfold bapp at g
 unfold app
 cases ht:told B r with
 | true=>rw [ht] at g;exact g.with_bytes _
 | false=>rw [ht] at g;exact g
theorem rep_app {r:Rcd} {p:Spt} (h:Rep T Ks) (hg:Key.Good T i):Rep (appT B T r p) (kapp B r p Ks):=by
 unfold appT kapp
 cases told B r with
 | false=>exact h
 | true =>
  show Rep (madeT T r p) (kmade r p Ks)
  unfold madeT kmade
  by_cases h3:r.kind=3
  ·rw [if_pos h3,if_pos h3]
   exact h.put hg (keyOf r p)
  ·rw [if_neg h3,if_neg h3]
   by_cases h4:r.kind=4
   ·rw [if_pos h4,if_pos h4]
    exact h.del hg r.key
   ·rw [if_neg h4,if_neg h4]
    exact h
end
def Keep (w w':World):Prop:=∀ (j:Nat) (t:TypeId) (cs:Array Value),(t=39∨t=28)→Blk w j t cs→Blk w' j t cs
theorem keep_step {w w':World} {s:Bl} {B:Bk} {T:Tab} {m:List It} {i:Nat} (h:BM w s B T m i) (hb:But (Foot s) w w'):Keep w w':=fun j t cs ht hj=>hj.but hb (h.no hj (by rcases ht with rfl|rfl <;> decide))
theorem keep_ref {w w':World} {rp:Nat} {kv tv:Value} {B:Bk} {Ks:List RK} (g:RM w rp kv tv B Ks) (hb:But (fun k=>k=rp) w w'):Keep w w':=fun j t cs ht hj=>hj.but hb (fun e=>hj.ne_ g.blk (by rcases ht with rfl|rfl <;> decide) e)
theorem keep_made {w w':World} {s:Bl} {B B':Bk} {T T':Tab} {m:List It} {i i':Nat} (h:BM w s B T m i) (hm:Made w s B' T' i' w'):Keep w w':=by
 obtain ⟨_,_,_,_,k⟩:=hm
 exact keep_step h k.but
structure Two (W wr:World) (p0 rp i:Nat) (B:Bk) (T:Tab) (C:Bk) (Ks:List RK):Prop where
 ex:∃ s m kv tv,BM wr s B T m i∧Ok B T m i∧RM wr rp kv tv C Ks∧s.p=p0∧∀ j,Foot s j→W.heap.size≤j
 lo:W.heap.size≤rp
 but:But (fun _=>False) W wr
section
variable {W wr w':World} {p0 rp i:Nat} {B C:Bk} {T:Tab} {Ks:List RK}
theorem Two.new (h:Two W wr p0 rp i B T C Ks) (hb:But (fun _=>False) wr w'):Two W w' p0 rp i B T C Ks:=by
 obtain ⟨s,m,kv,tv,h1,h2,h3,h4,h5⟩:=h.ex
 exact ⟨⟨s,m,kv,tv,h1.new hb,h2,h3.new hb,h4,h5⟩,h.lo,h.but.trans hb (fun _ _ h=>h)⟩
theorem Two.made {s:Bl} {m:List It} {kv tv:Value} {B':Bk} {T':Tab} {i':Nat} (h:Two W wr p0 rp i B T C Ks) (h1:BM wr s B T m i) (h3:RM wr rp kv tv C Ks) (h4:s.p=p0) (h5:∀ j,Foot s j→W.heap.size≤j) (hm:Made wr s B' T' i' w'):Two W w' p0 rp i' B' T' C Ks:=by
 obtain ⟨s',m',k1,k2,k3⟩:=hm
 refine ⟨⟨s',m',kv,tv,k1,k2,rm_step h3 h1 k3.but,k3.p.trans h4,fun j hj=>?_⟩,h.lo,h.but.trans k3.but (fun j hj hf=>by have:=h5 j hf;omega)⟩
 rcases k3.new j hj with h6|h6
 ·exact h5 j h6
 ·have:=h.but.size;omega
theorem Two.ref {s:Bl} {m:List It} {kv tv kv' tv':Value} {C':Bk} {Ks':List RK} (h:Two W wr p0 rp i B T C Ks) (h1:BM wr s B T m i) (h2:Ok B T m i) (h3:RM wr rp kv tv C Ks) (h4:s.p=p0) (h5:∀ j,Foot s j→W.heap.size≤j) (k:RM w' rp kv' tv' C' Ks') (hb:But (fun k=>k=rp) wr w'):Two W w' p0 rp i B T C' Ks' :=
 ⟨⟨s,m,kv',tv',bm_ref h1 h3 hb,h2,k,h4,h5⟩,h.lo,h.but.trans hb (fun j hj e=>by have:=h.lo;omega)⟩
theorem Two.apply (h:Two W wr p0 rp i B T C Ks) (hi:i+1≤400) (r:Rcd) (hr:Rec.Is r) (p:Spt) (hp:SpOk p) :
  Calls Tryz.prog 9 #[.pointer (some ⟨p0,0,none⟩),Rec.rv r,spV p] wr fun e w'=>e = .returned (.bool (told B r))∧Two W w' p0 rp (i+1) (app B T r p) (appT B T r p) C Ks∧Keep wr w':=by
 obtain ⟨s,m,kv,tv,h1,h2,h3,h4,h5⟩:=h.ex
 have:=apply_any h1 h2 hi r hr p hp
 rw [h4] at this
 exact this.mono fun e w' ⟨he,hm⟩=>⟨he,h.made h1 h3 h4 h5 hm,keep_made h1 hm⟩
theorem Two.tick (h:Two W wr p0 rp i B T C Ks) (hi:i+1≤400) (now:Nat) :
  Calls Tryz.prog 7 #[.pointer (some ⟨p0,0,none⟩),.int .u64 (now:Int)] wr fun e w'=>∃ (c:Nat) (T':Tab),e = .returned (.int .i64 (c:Int))∧Two W w' p0 rp i { B with bytes:=tot (all T') } T' C Ks∧Ticks T T' now∧c+Key.cnt T'=Key.cnt T∧Keep wr w':=by
 obtain ⟨s,m,kv,tv,h1,h2,h3,h4,h5⟩:=h.ex
 have:=tick_any h1 h2 hi now
 rw [h4] at this
 exact this.mono fun e w' ⟨c,T',he,hm,ht,hc⟩=>⟨c,T',he,h.made h1 h3 h4 h5 hm,ht,hc,keep_made h1 hm⟩
theorem Two.rapply (h:Two W wr p0 rp i B T C Ks) (o:ROk C Ks) (r:Rcd) (hr:Rec.Is r) (p:Spt) (hp:SpOk p) :
  Calls Tryz.prog 10 #[.pointer (some ⟨rp,0,none⟩),Rec.rv r,spV p] wr fun e w'=>e = .returned (.bool (told C r))∧Two W w' p0 rp i B T (bapp C r) (kapp C r p Ks)∧Keep wr w':=by
 obtain ⟨s,m,kv,tv,h1,h2,h3,h4,h5⟩:=h.ex
 exact (rap_any h3 o r hr p hp).mono fun e w' ⟨he,⟨kv',tv',k⟩,hb⟩=>⟨he,h.ref h1 h2 h3 h4 h5 k hb,keep_ref h3 hb⟩
theorem Two.rtick (h:Two W wr p0 rp i B T C Ks) (hl:Ks.length≤1000) (now:Nat) :
  Calls Tryz.prog 8 #[.pointer (some ⟨rp,0,none⟩),.int .u64 (now:Int)] wr fun e w'=>e = .returned (.int .i64 ((Ks.length:Int) - ((Ks.filter (stays now)).length:Int)))∧Two W w' p0 rp i B T C (Ks.filter (stays now))∧Keep wr w':=by
 obtain ⟨s,m,kv,tv,h1,h2,h3,h4,h5⟩:=h.ex
 exact (rtick_any h3 hl now).mono fun e w' ⟨he,⟨kv',k⟩,hb⟩=>⟨he,h.ref h1 h2 h3 h4 h5 k hb,keep_ref h3 hb⟩
theorem Two.recharge (h:Two W wr p0 rp i B T C Ks) (hid:0≤B.id∧B.id < 64) (hgn:1≤B.gen) (hc:0≤chargeOf B T∧chargeOf B T≤2000 * (i:Int)) :
  Calls Tryz.prog 16 #[.pointer (some ⟨p0,0,none⟩)] wr fun e w'=>e = .returned (.tuple #[])∧Two W w' p0 rp i { B with charged:=chargeOf B T } T C Ks:=by
 obtain ⟨s,m,kv,tv,h1,h2,h3,h4,h5⟩:=h.ex
 have:=recharge_any h1 h2 hid hgn
 rw [h4] at this
 exact this.mono fun e w' ⟨he,hm,hs⟩=>⟨he,⟨⟨s,m,kv,tv,hm,⟨h2.bytes,h2.cov,h2.few,h2.okm,h2.okt,h2.id,h2.gen,h2.seq,h2.serial,hc⟩,rm_step h3 h1 hs.but,h4,h5⟩,h.lo,h.but.trans hs.but (fun j hj hf=>by have:=h5 j hf;omega)⟩⟩
theorem Two.rrecharge (h:Two W wr p0 rp i B T C Ks) (hl:Ks.length≤1000) (hg:Rgt.Good C.toks) (hok:∀ x ∈ Ks,OkX x) (hid:0≤C.id∧C.id < 64) (hgn:1≤C.gen∧C.gen < 4294967296) :
  Calls Tryz.prog 17 #[.pointer (some ⟨rp,0,none⟩)] wr fun e w'=>e = .returned (.tuple #[])∧Two W w' p0 rp i B T { C with charged:=tokC C.toks.length+(34 * (Ks.length:Int)+kbytes Ks) } Ks:=by
 obtain ⟨s,m,kv,tv,h1,h2,h3,h4,h5⟩:=h.ex
 exact (rrecharge_any h3 hl hg hok hid hgn).mono fun e w' ⟨he,k,hb⟩=>⟨he,h.ref h1 h2 h3 h4 h5 k hb⟩
theorem Two.more (h:Two W wr p0 rp i B T C Ks) (hi:i+1≤400):Two W wr p0 rp (i+1) B T C Ks:=by
 obtain ⟨s,m,kv,tv,h1,h2,h3,h4,h5⟩:=h.ex
 exact ⟨⟨s,m,kv,tv,h1.more hi,h2.more,h3,h4,h5⟩,h.lo,h.but⟩
structure Pair (W wr:World) (p0 rp i:Nat) (B:Bk) (T:Tab) (Ks:List RK):Prop where
 two:Two W wr p0 rp i B T B Ks
 rep:Rep T Ks
theorem Pair.cnt (h:Pair W wr p0 rp i B T Ks):Key.cnt T=Ks.length∧Ks.length≤i:=by
 obtain ⟨s,m,kv,tv,h1,h2,h3,h4,h5⟩:=h.two.ex
 have e:=h.rep.cnt h1.key.good
 exact ⟨e,by rw [← e];exact h1.key.good.few⟩
theorem Pair.rok (h:Pair W wr p0 rp i B T Ks) (hi:i≤400):ROk B Ks:=by
 have hc:=h.cnt
 obtain ⟨s,m,kv,tv,h1,h2,h3,h4,h5⟩:=h.two.ex
 exact ⟨h1.tok.good,by omega,h2.seq,h2.serial,h2.charged.1,by have:=h2.charged.2;omega⟩
theorem Pair.okx (h:Pair W wr p0 rp i B T Ks):∀ x ∈ Ks,OkX x:=by
 obtain ⟨s,m,kv,tv,h1,h2,h3,h4,h5⟩:=h.two.ex
 exact okx_of h.rep h2.okt
theorem Pair.same (h:Pair W wr p0 rp i B T Ks) (hi:i≤400):Calls Tryz.prog 11 #[.pointer (some ⟨p0,0,none⟩),.pointer (some ⟨rp,0,none⟩)] wr fun e w'=>e = .returned (.bool true)∧But (fun _=>False) wr w':=by
 have hc:=h.cnt
 have hx:=h.okx
 obtain ⟨s,m,kv,tv,h1,h2,h3,h4,h5⟩:=h.two.ex
 have:=same_law h1 h2 h3 h.rep (by omega) hx
 rw [h4] at this
 exact this
theorem Pair.new (h:Pair W wr p0 rp i B T Ks) (hb:But (fun _=>False) wr w'):Pair W w' p0 rp i B T Ks:=⟨h.two.new hb,h.rep⟩
theorem Two.bytes {x:Int} (h:Two W wr p0 rp i B T C Ks):Two W wr p0 rp i B T { C with bytes:=x } Ks:=by
 obtain ⟨s,m,kv,tv,h1,h2,h3,h4,h5⟩:=h.ex
 exact ⟨⟨s,m,kv,tv,h1,h2,h3.with_bytes x,h4,h5⟩,h.lo,h.but⟩
theorem Two.app {r:Rcd} {p:Spt} {j:Nat} (h:Two W wr p0 rp j (app B T r p) (appT B T r p) (bapp B r) (kapp B r p Ks)) (hr:Rep T Ks) (hg:Key.Good T i):Pair W wr p0 rp j (Buk.app B T r p) (appT B T r p) (kapp B r p Ks):=by
 refine ⟨?_,rep_app hr hg⟩
 obtain ⟨s,m,kv,tv,h1,h2,h3,h4,h5⟩:=h.ex
 exact ⟨⟨s,m,kv,tv,h1,h2,rm_app h3,h4,h5⟩,h.lo,h.but⟩
theorem Two.good (h:Two W wr p0 rp i B T C Ks):Key.Good T i:=by
 obtain ⟨s,m,kv,tv,h1,h2,h3,h4,h5⟩:=h.ex
 exact h1.key.good
theorem Pair.ticked {c now:Nat} {T':Tab} (h:Pair W wr p0 rp i B T Ks) (ht:Ticks T T' now) (hc:c+Key.cnt T'=Key.cnt T) (h2:Two W w' p0 rp i { B with bytes:=tot (all T') } T' B (Ks.filter (stays now))):Pair W w' p0 rp i { B with bytes:=tot (all T') } T' (Ks.filter (stays now))∧(c:Int)=(Ks.length:Int) - ((Ks.filter (stays now)).length:Int):=by
 have hr:=h.rep.tick ht
 have h3:=hr.cnt h2.good
 have h4:=h.cnt.1
 exact ⟨⟨h2.bytes,hr⟩,by omega⟩
theorem app_id (B:Bk) (T:Tab) (r:Rcd) (p:Spt):(app B T r p).id=B.id∧(app B T r p).gen=B.gen:=by
 unfold app made
 split
 ·refine ⟨?_,?_⟩ <;> (dsimp only;split <;> (try split) <;> (try split) <;> rfl)
 ·exact ⟨rfl,rfl⟩
theorem Pair.good (h:Pair W wr p0 rp i B T Ks):Key.Good T i:=by
 obtain ⟨s,m,kv,tv,h1,h2,h3,h4,h5⟩:=h.two.ex
 exact h1.key.good
theorem Pair.rights (h:Pair W wr p0 rp i B T Ks) (t:Tkn) (ht:OkK t):Calls Tryz.prog 12 #[.pointer (some ⟨p0,0,none⟩),.agg (tkB t)] wr fun e w'=>e = .returned (.int .i64 (rightsOf B t))∧But (fun _=>False) wr w':=by
 obtain ⟨s,m,kv,tv,h1,h2,h3,h4,h5⟩:=h.two.ex
 have:=rights_any h1 t ht
 rw [h4] at this
 exact this
theorem Pair.rrights (h:Pair W wr p0 rp i B T Ks) (t:Tkn) (ht:OkK t):Calls Tryz.prog 13 #[.pointer (some ⟨rp,0,none⟩),.agg (tkB t)] wr fun e w'=>e = .returned (.int .i64 (rightsOf B t))∧But (fun _=>False) wr w':=by
 obtain ⟨s,m,kv,tv,h1,h2,h3,h4,h5⟩:=h.two.ex
 exact rrights_any h3 h1.tok.good t ht
theorem Pair.get (h:Pair W wr p0 rp i B T Ks) (k:ByteArray) (hk:k.size≤200):Calls Tryz.prog 14 #[.pointer (some ⟨p0,0,none⟩),.string k] wr fun e w'=>e = .returned (.tuple #[Key.ev (Key.ent (Key.ask T k)),.bool (fhas k Ks)])∧But (fun _=>False) wr w':=by
 obtain ⟨s,m,kv,tv,h1,h2,h3,h4,h5⟩:=h.two.ex
 have:=get_any h1 k hk
 rw [h4,h.rep.has h1.key.good] at this
 exact this
theorem Pair.find (h:Pair W wr p0 rp i B T Ks) (hi:i≤400) (k:ByteArray):Calls Tryz.prog 15 #[.pointer (some ⟨rp,0,none⟩),.string k] wr fun e w'=>e = .returned (.tuple #[.int .i64 ((fpl k Ks:Nat):Int),.bool (fhas k Ks)])∧But (fun _=>False) wr w':=by
 have hc:=h.cnt
 obtain ⟨s,m,kv,tv,h1,h2,h3,h4,h5⟩:=h.two.ex
 exact find_any h3 (by omega) k
theorem Pair.absent (h:Pair W wr p0 rp i B T Ks) {k:ByteArray} (hk:fhas k Ks=false):Key.ask T k=none:=by
 rw [← h.rep.has h.good] at hk
 simpa using hk
theorem Pair.more (h:Pair W wr p0 rp i B T Ks) (hi:i+1≤400):Pair W wr p0 rp (i+1) B T Ks:=⟨h.two.more hi,h.rep⟩
theorem Pair.toks (h:Pair W wr p0 rp i B T Ks):Rgt.Good B.toks:=by
 obtain ⟨s,m,kv,tv,h1,h2,h3,h4,h5⟩:=h.two.ex
 exact h1.tok.good
theorem Pair.charge (h:Pair W wr p0 rp i B T Ks):chargeOf B T=tokC B.toks.length+(34 * (Ks.length:Int)+kbytes Ks)∧0≤chargeOf B T∧chargeOf B T≤2700+1098 * (i:Int):=by
 have hc:=h.cnt
 have ht:=h.rep.tot h.good
 have hg:=h.toks.len
 obtain ⟨s,m,kv,tv,h1,h2,h3,h4,h5⟩:=h.two.ex
 have hb:=h2.okt.tot h1.key.good
 have e:chargeOf B T=tokC B.toks.length+(34 * (Ks.length:Int)+kbytes Ks):=by
  unfold chargeOf
  rw [hc.1,ht]
 refine ⟨e,?_,?_⟩ <;> (rw [e,← ht];unfold tokC;omega)
end
end Go.Proofs.YtgjofinbdigmcaaGreat.Buk
end
section
namespace Go.Proofs.YtgjofinbdigmcaaGreat.Rec
open Go.Proofs.YtgjofinbdigmcaaGreat.Mem Go.Proofs.YtgjofinbdigmcaaGreat.Pack
open Go.Deep Go.ChangeShapes Go.WideShapes Go.ChangeAt Go.RowKit
theorem wf64 {n:Int} (h:(Lit.int .i64 n).wf=true) : -9223372036854775808≤n∧n≤9223372036854775807:=by
 simpa [Lit.wf,IntKind.min,IntKind.max,IntKind.signed,IntKind.bits] using h
theorem wfu32 {n:Int} (h:(Lit.int .u32 n).wf=true):∃ k:Nat,n=(k:Int)∧k < 4294967296:=by
 have:0≤n∧n≤4294967295:=by simpa [Lit.wf,IntKind.min,IntKind.max,IntKind.signed,IntKind.bits] using h
 exact ⟨n.toNat,by omega,by omega⟩
theorem wfu64 {n:Int} (h:(Lit.int .u64 n).wf=true):∃ k:Nat,n=(k:Int)∧k < 18446744073709551616:=by
 have:0≤n∧n≤18446744073709551615:=by simpa [Lit.wf,IntKind.min,IntKind.max,IntKind.signed,IntKind.bits] using h
 exact ⟨n.toNat,by omega,by omega⟩
theorem list_succ {α:Type} {l:List α} {n:Nat} (h:l.length=n+1):∃ a r,l=a :: r∧r.length=n:=by
 cases l with
 | nil=>cases h
 | cons a r=>exact ⟨a,r,rfl,by simpa using h⟩
theorem list12 {α:Type} {l:List α} (h:l.length=12):∃ y0 y1 y2 y3 y4 y5 y6 y7 y8 y9 y10 y11,l=[y0,y1,y2,y3,y4,y5,y6,y7,y8,y9,y10,y11]:=by
 obtain ⟨y0,r0,rfl,h0⟩:=list_succ h
 obtain ⟨y1,r1,rfl,h1⟩:=list_succ h0
 obtain ⟨y2,r2,rfl,h2⟩:=list_succ h1
 obtain ⟨y3,r3,rfl,h3⟩:=list_succ h2
 obtain ⟨y4,r4,rfl,h4⟩:=list_succ h3
 obtain ⟨y5,r5,rfl,h5⟩:=list_succ h4
 obtain ⟨y6,r6,rfl,h6⟩:=list_succ h5
 obtain ⟨y7,r7,rfl,h7⟩:=list_succ h6
 obtain ⟨y8,r8,rfl,h8⟩:=list_succ h7
 obtain ⟨y9,r9,rfl,h9⟩:=list_succ h8
 obtain ⟨y10,r10,rfl,h10⟩:=list_succ h9
 obtain ⟨y11,r11,rfl,h11⟩:=list_succ h10
 obtain rfl:=List.eq_nil_of_length_eq_zero h11
 exact ⟨y0,y1,y2,y3,y4,y5,y6,y7,y8,y9,y10,y11,rfl⟩
theorem list14 {α:Type} {l:List α} (h:l.length=14):∃ v0 v1 v2 v3 v4 v5 v6 v7 v8 v9 v10 v11 v12 v13,l=[v0,v1,v2,v3,v4,v5,v6,v7,v8,v9,v10,v11,v12,v13]:=by
 obtain ⟨v0,r0,rfl,h0⟩:=list_succ h
 obtain ⟨v1,r1,rfl,h1⟩:=list_succ h0
 obtain ⟨v2,r2,rfl,h2⟩:=list_succ h1
 obtain ⟨v3,r3,rfl,h3⟩:=list_succ h2
 obtain ⟨v4,r4,rfl,h4⟩:=list_succ h3
 obtain ⟨v5,r5,rfl,h5⟩:=list_succ h4
 obtain ⟨v6,r6,rfl,h6⟩:=list_succ h5
 obtain ⟨v7,r7,rfl,h7⟩:=list_succ h6
 obtain ⟨v8,r8,rfl,h8⟩:=list_succ h7
 obtain ⟨v9,r9,rfl,h9⟩:=list_succ h8
 obtain ⟨v10,r10,rfl,h10⟩:=list_succ h9
 obtain ⟨v11,r11,rfl,h11⟩:=list_succ h10
 obtain ⟨v12,r12,rfl,h12⟩:=list_succ h11
 obtain ⟨v13,r13,rfl,h13⟩:=list_succ h12
 obtain rfl:=List.eq_nil_of_length_eq_zero h13
 exact ⟨v0,v1,v2,v3,v4,v5,v6,v7,v8,v9,v10,v11,v12,v13,rfl⟩
section
variable {H:Type} {enc:TypeId × Value→H} {w:World} {spare:Nat→Bool} {held:Bool}
theorem quota_read {fuel:Nat} {v0 v1 v2:Value} {z:DataW H × List MemPlace} (h:DataW.trod enc Tryz.prog w 0 spare held fuel 24 [v0,v1,v2]=some z):∃ a b c:Int,v0 = .int .i64 a∧v1 = .int .i64 b∧v2 = .int .i64 c:=by
 have k2:Tryz.prog.cellsOf 2=1:=by kernel_rfl
 obtain ⟨xs,n,_,_,_,hlen,hall⟩:=DataW.trod_struct Tryz.underlying24 h
 match xs,hlen with
 | [y0,y1,y2],_ =>
  have h0:=hall 0 _ rfl
  have h1:=hall 1 _ rfl
  have h2:=hall 2 _ rfl
  simp [k2] at h0 h1 h2
  obtain ⟨a,e0,_,_⟩:=DataW.trod_int Tryz.underlying2 h0
  obtain ⟨b,e1,_,_⟩:=DataW.trod_int Tryz.underlying2 h1
  obtain ⟨c,e2,_,_⟩:=DataW.trod_int Tryz.underlying2 h2
  injection e0 with e0
  injection e1 with e1
  injection e2 with e2
  exact ⟨a,b,c,e0,e1,e2⟩
theorem rec_read {fuel:Nat} {cs:List Value} {z:DataW H × List MemPlace} (h:DataW.trod enc Tryz.prog w 0 spare held fuel 35 cs=some z):∃ r:Rcd,cs=(cells r).toList∧Is r:=by
 have k_int:Tryz.prog.cellsOf 3=1:=by kernel_rfl
 have k_uint32:Tryz.prog.cellsOf 22=1:=by kernel_rfl
 have k_uint64:Tryz.prog.cellsOf 26=1:=by kernel_rfl
 have k_string:Tryz.prog.cellsOf 9=1:=by kernel_rfl
 have k_q:Tryz.prog.cellsOf 24=3:=by kernel_rfl
 have k_r:Tryz.prog.cellsOf 35=14:=by kernel_rfl
 obtain ⟨xs,n,_,_,hcl,hlen,hall⟩:=DataW.trod_struct Tryz.underlying35 h
 rw [k_r] at hcl
 clear h
 obtain ⟨v0,v1,v2,v3,v4,v5,v6,v7,v8,v9,v10,v11,v12,v13,rfl⟩:=list14 hcl
 obtain ⟨y0,y1,y2,y3,y4,y5,y6,y7,y8,y9,y10,y11,rfl⟩:=list12 hlen
 have h0:=hall 0 _ rfl
 have h1:=hall 1 _ rfl
 have h2:=hall 2 _ rfl
 have h3:=hall 3 _ rfl
 have h4:=hall 4 _ rfl
 have h5:=hall 5 _ rfl
 have h6:=hall 6 _ rfl
 have h7:=hall 7 _ rfl
 have h8:=hall 8 _ rfl
 have h9:=hall 9 _ rfl
 have h10:=hall 10 _ rfl
 have h11:=hall 11 _ rfl
 clear hall
 simp [k_int,k_uint32,k_uint64,k_string,k_q] at h0 h1 h2 h3 h4 h5 h6 h7 h8 h9 h10 h11
 obtain ⟨n0,e0,_,w0⟩:=DataW.trod_int Tryz.underlying3 h0
 injection e0 with e0
 subst e0
 have g0:=wf64 w0
 obtain ⟨n1,e1,_,w1⟩:=DataW.trod_int Tryz.underlying3 h1
 injection e1 with e1
 subst e1
 have g1:=wf64 w1
 obtain ⟨n2,e2,_,w2⟩:=DataW.trod_int Tryz.underlying22 h2
 injection e2 with e2
 subst e2
 obtain ⟨n2,rfl,g2⟩:=wfu32 w2
 obtain ⟨qa,qb,qc,rfl,rfl,rfl⟩:=quota_read h3
 obtain ⟨n4,e4,_,w4⟩:=DataW.trod_int Tryz.underlying26 h4
 injection e4 with e4
 subst e4
 obtain ⟨n4,rfl,g4⟩:=wfu64 w4
 obtain ⟨n5,e5,_,w5⟩:=DataW.trod_int Tryz.underlying22 h5
 injection e5 with e5
 subst e5
 obtain ⟨n5,rfl,g5⟩:=wfu32 w5
 obtain ⟨n6,e6,_,w6⟩:=DataW.trod_int Tryz.underlying3 h6
 injection e6 with e6
 subst e6
 have g6:=wf64 w6
 obtain ⟨n7,e7,_,w7⟩:=DataW.trod_int Tryz.underlying26 h7
 injection e7 with e7
 subst e7
 obtain ⟨n7,rfl,g7⟩:=wfu64 w7
 obtain ⟨n8,e8,_,w8⟩:=DataW.trod_string Tryz.underlying9 h8
 injection e8 with e8
 subst e8
 obtain ⟨n9,e9,_,w9⟩:=DataW.trod_string Tryz.underlying9 h9
 injection e9 with e9
 subst e9
 obtain ⟨n10,e10,_,w10⟩:=DataW.trod_int Tryz.underlying26 h10
 injection e10 with e10
 subst e10
 obtain ⟨n10,rfl,g10⟩:=wfu64 w10
 obtain ⟨n11,e11,_,w11⟩:=DataW.trod_int Tryz.underlying26 h11
 injection e11 with e11
 subst e11
 obtain ⟨n11,rfl,g11⟩:=wfu64 w11
 have hmx:maxLen=9223372036854775807:=rfl
 rw [hmx] at w8 w9
 exact ⟨⟨n0,n1,n2,qa,qb,qc,n4,n5,n6,n7,n8,n9,n10,n11⟩,rfl,⟨g0,g1,g2,g4,g5,g6,g7,w8,w9,g10,g11⟩⟩
end
end Go.Proofs.YtgjofinbdigmcaaGreat.Rec
end
section
namespace Go.Proofs.YtgjofinbdigmcaaGreat.Buk
open Go.Proofs.YtgjofinbdigmcaaGreat.Mem
open Go.Deep Go.ChangeShapes Go.WideShapes Go.ChangeAt Go.RowKit
structure Deed where
 tick:Bool
 now:Nat
 r:Rcd
 p:Spt
def dcells (x:Deed):List Value := .bool x.tick :: .int .u64 (x.now:Int) :: (rcs x.r++[.int .i64 x.p.1,.int .i64 x.p.2.1,.int .i64 x.p.2.2])
theorem dcells_length (x:Deed):(dcells x).length=19:=rfl
structure OkD (x:Deed):Prop where
 now:x.now < 18446744073709551616
 r:Rec.Is x.r
 p:SpOk x.p
structure Deeds (w:World) (a:Option Addr) (l:List Deed):Prop where
 is_:∀ x ∈ l,OkD x
 at_:0 < l.length→∃ g o,a=some ⟨g,o,none⟩∧g < w.heap.size∧∀ i (h:i < l.length),∀ j u,(dcells l[i])[j]?=some u→w.cell? ⟨g,o+i * 19+j,none⟩=some u
section
variable {H:Type} {enc:TypeId × Value→H} {w:World} {spare:Nat→Bool} {held:Bool}
theorem list3 {α:Type} {l:List α} (h:l.length=3):∃ y0 y1 y2,l=[y0,y1,y2]:=by
 rcases l with _|⟨a,_|⟨b,_|⟨c,_|⟨d,r⟩⟩⟩⟩ <;> simp at h
 exact ⟨a,b,c,rfl⟩
theorem spot_read {fuel:Nat} {cs:List Value} {z:DataW H × List MemPlace} (h:DataW.trod enc Tryz.prog w 0 spare held fuel 37 cs=some z):∃ p:Spt,cs=[.int .i64 p.1,.int .i64 p.2.1,.int .i64 p.2.2]∧SpOk p:=by
 have k_int:Tryz.prog.cellsOf 3=1:=by kernel_rfl
 have k_r:Tryz.prog.cellsOf 37=3:=by kernel_rfl
 obtain ⟨xs,n,_,_,hcl,hlen,hall⟩:=DataW.trod_struct Tryz.underlying37 h
 rw [k_r] at hcl
 clear h
 obtain ⟨v0,v1,v2,rfl⟩:=list3 hcl
 obtain ⟨y0,y1,y2,rfl⟩:=list3 hlen
 have h0:=hall 0 _ rfl
 have h1:=hall 1 _ rfl
 have h2:=hall 2 _ rfl
 clear hall
 simp [k_int] at h0 h1 h2
 obtain ⟨n0,e0,_,w0⟩:=DataW.trod_int Tryz.underlying3 h0
 injection e0 with e0
 subst e0
 obtain ⟨n1,e1,_,w1⟩:=DataW.trod_int Tryz.underlying3 h1
 injection e1 with e1
 subst e1
 obtain ⟨n2,e2,_,w2⟩:=DataW.trod_int Tryz.underlying3 h2
 injection e2 with e2
 subst e2
 exact ⟨(n0,n1,n2),rfl,⟨Rec.wf64 w0,Rec.wf64 w1,Rec.wf64 w2⟩⟩
theorem quota_open {fuel:Nat} {cs:List Value} {z:DataW H × List MemPlace} (h:DataW.trod enc Tryz.prog w 0 spare held fuel 24 cs=some z):∃ a b c:Int,cs=[.int .i64 a,.int .i64 b,.int .i64 c]:=by
 have k_int:Tryz.prog.cellsOf 2=1:=by kernel_rfl
 have k_r:Tryz.prog.cellsOf 24=3:=by kernel_rfl
 obtain ⟨xs,n,_,_,hcl,hlen,hall⟩:=DataW.trod_struct Tryz.underlying24 h
 rw [k_r] at hcl
 clear h
 obtain ⟨v0,v1,v2,rfl⟩:=list3 hcl
 obtain ⟨y0,y1,y2,rfl⟩:=list3 hlen
 have h0:=hall 0 _ rfl
 have h1:=hall 1 _ rfl
 have h2:=hall 2 _ rfl
 clear hall
 simp [k_int] at h0 h1 h2
 obtain ⟨n0,e0,_,w0⟩:=DataW.trod_int Tryz.underlying2 h0
 injection e0 with e0
 subst e0
 obtain ⟨n1,e1,_,w1⟩:=DataW.trod_int Tryz.underlying2 h1
 injection e1 with e1
 subst e1
 obtain ⟨n2,e2,_,w2⟩:=DataW.trod_int Tryz.underlying2 h2
 injection e2 with e2
 subst e2
 exact ⟨n0,n1,n2,rfl⟩
theorem list_two {α:Type} {l:List α} {n:Nat} (h:l.length=n+2):∃ a b r,l=a :: b :: r∧r.length=n:=by
 rcases l with _|⟨a,_|⟨b,r⟩⟩ <;> simp at h
 exact ⟨a,b,r,rfl,h⟩
theorem deed_read {fuel:Nat} {cs:List Value} {z:DataW H × List MemPlace} (h:DataW.trod enc Tryz.prog w 0 spare held fuel 39 cs=some z):∃ x:Deed,cs=dcells x∧OkD x:=by
 have k_b:Tryz.prog.cellsOf 4=1:=by kernel_rfl
 have k_u:Tryz.prog.cellsOf 26=1:=by kernel_rfl
 have k_e:Tryz.prog.cellsOf 35=14:=by kernel_rfl
 have k_s:Tryz.prog.cellsOf 37=3:=by kernel_rfl
 have k_r:Tryz.prog.cellsOf 39=19:=by kernel_rfl
 obtain ⟨xs,n,_,_,hcl,hlen,hall⟩:=DataW.trod_struct Tryz.underlying39 h
 rw [k_r] at hcl
 clear h
 obtain ⟨v0,v1,r0,rfl,hr0⟩:=list_two hcl
 match xs,hlen with
 | [y0,y1,y2,y3],_ =>
  have h0:=hall 0 _ rfl
  have h1:=hall 1 _ rfl
  have h2:=hall 2 _ rfl
  have h3:=hall 3 _ rfl
  clear hall
  simp [k_b,k_e,k_u,k_s] at h0 h1 h2 h3
  obtain ⟨b,e0,_⟩:=DataW.trod_bool Tryz.underlying4 h0
  injection e0 with e0
  subst e0
  obtain ⟨n1,e1,_,w1⟩:=DataW.trod_int Tryz.underlying26 h1
  injection e1 with e1
  subst e1
  obtain ⟨n1,rfl,g1⟩:=Rec.wfu64 w1
  obtain ⟨r,e2,hir⟩:=Rec.rec_read h2
  have hd:(r0.drop 14).length=3:=by rw [List.length_drop];omega
  rw [List.take_of_length_le (by omega)] at h3
  obtain ⟨p,e3,hip⟩:=spot_read h3
  refine ⟨⟨b,n1,r,p⟩,?_,⟨g1,hir,hip⟩⟩
  show Value.bool b :: Value.int .u64 (n1:Int) :: r0=_
  rw [← List.take_append_drop 14 r0,e2,e3]
  rfl
theorem deeds_read {fuel:Nat} {v:Value} {y:DataW H × List MemPlace} (h:DataW.trod enc Tryz.prog w 0 (fun _=>true) true fuel 25 [v]=some y) :
  ∃ (a:Option Addr) (l:List Deed) (cap:Nat),v = .slice a l.length cap∧Deeds w a l∧l.length≤cap∧cap≤maxLen:=by
 have hsz:Tryz.prog.cellsOf 39=19:=by kernel_rfl
 rcases open_slice Tryz.underlying25 h with ⟨hcs,_⟩|⟨x,len,c,m,n0,D,Pl,hcs,_,hl,hm,hmm,_,hi⟩
 ·injection hcs with hv _
  exact ⟨none,[],0,hv,⟨fun _ h=>by (simp at h),fun h=>by (simp at h)⟩,Nat.le_refl _,Nat.zero_le _⟩
 ·injection hcs with hv _
  have hmm':m=c:=by simpa using hmm
  have hall:∀ i,∃ r:Deed,i < len→(OkD r∧∀ j u,(dcells r)[j]?=some u→w.cell? ((x.add (i * 19)).add j)=some u):=by
   intro i
   by_cases hil:i < len
   ·obtain ⟨cs,hc,hr⟩:=hi i (by omega)
    rw [hsz] at hc
    obtain ⟨r,rfl,hir⟩:=deed_read hr
    obtain ⟨_,hsize,hcells⟩:=World.cells?_some hc
    refine ⟨r,fun _=>⟨hir,fun j u hu=>?_⟩⟩
    have hj:j < 19:=by rw [← dcells_length r];exact (List.getElem?_eq_some_iff.1 hu).1
    rw [hcells j hj]
    simpa using hu
   ·exact ⟨⟨false,0,Rec.zero,(0,0,0)⟩,fun h=>absurd h hil⟩
  obtain ⟨f,hf⟩:=Classical.skolem.1 hall
  have hlen:((List.range len).map f).length=len:=by simp
  refine ⟨some x,(List.range len).map f,c,by rw [hlen];exact hv,⟨fun r hr=>?_,fun hn=>?_⟩,by rw [hlen];exact hl,hm⟩
  ·obtain ⟨i,hir,rfl⟩:=List.mem_map.1 hr
   exact (hf i (List.mem_range.1 hir)).1
  ·rw [hlen] at hn
   obtain ⟨b,off,spot⟩:=x
   have h0:=(hf 0 hn).2 0 _ rfl
   have hspot:spot=none:=by simpa [Addr.add] using World.cell?_spot h0
   subst hspot
   refine ⟨b,off,rfl,block_lt_of_cell (a:=⟨b,off,none⟩) (by simpa [Addr.add] using h0),fun i hil j u hu=>?_⟩
   rw [hlen] at hil
   have h1:=(hf i hil).2 j u (by simpa using hu)
   rw [add_none,add_none] at h1
   exact h1
end
end Go.Proofs.YtgjofinbdigmcaaGreat.Buk
end
section
namespace Go.Proofs.YtgjofinbdigmcaaGreat.Buk
open Go.Proofs.YtgjofinbdigmcaaGreat.Mem
open Go.ChangeShapes Go.WideShapes Go.ChangeAt Go.RowKit
theorem app_put {B:Bk} {T:Tab} {r:Rcd} {p:Spt} (ho:Own B r) (hk:r.kind=3):told B r=true∧app B T r p={ B with bytes:=tot (all (Key.put T (entOf r p))),seq:=b64 B.seq r.version,charged:=B.charged+Rec.costOf r }∧appT B T r p=Key.put T (entOf r p):=by
 have ht:told B r=true:=by unfold told;rw [decide_eq_true ho,hk];rfl
 unfold app appT madeT made
 rw [ht,hk]
 exact ⟨rfl,rfl,rfl⟩
def putR (id:Int) (gen:Nat) (key val:ByteArray) (ver exp:Nat):Rcd:=⟨3,id,gen,0,0,0,0,0,0,0,key,val,ver,exp⟩
theorem may_put {id:Int} {gen:Nat} {key val:ByteArray} {ver exp:Nat} (hid:0≤id∧id < 64) (hg:1≤gen) (hk:1≤key.size∧key.size≤64) (hv:val.size≤1000):Rec.May (putR id gen key val ver exp) :=
 ⟨by show (1:Int)≤3;omega,by show (3:Int)≤7;omega,hid.1,hid.2,hg,by simp [putR,Rec.named],by simp [putR,Rec.fits,Rec.keyMay];omega⟩
theorem is_put {id:Int} {gen:Nat} {key val:ByteArray} {ver exp:Nat} (hid:0≤id∧id < 64) (hg:gen < 4294967296) (hk:key.size≤64) (hv:val.size≤1000) (h1:ver < 18446744073709551616) (h2:exp < 18446744073709551616):Rec.Is (putR id gen key val ver exp):=by
 unfold putR
 constructor <;> (try dsimp only) <;> omega
theorem is_zero:Rec.Is Rec.zero:=by
 have:Rec.nothing.size=0:=rfl
 unfold Rec.zero
 constructor <;> (try dsimp only) <;> omega
theorem sp_small {a b c:Nat} (ha:a≤100) (hb:b≤100) (hc:c≤100):SpOk ((a:Int),(b:Int),(c:Int)):=⟨by show _≤(a:Int)∧(a:Int)≤_;omega,by show _≤(b:Int)∧(b:Int)≤_;omega,by show _≤(c:Int)∧(c:Int)≤_;omega⟩
theorem told_zero (B:Bk):told B Rec.zero=false:=by
 unfold told
 rw [decide_eq_false (fun h:Own B Rec.zero=>by have:=h.1.1;have h2:(1:Int)≤0:=this;omega)]
 rfl
theorem agg_rec (w:World):(isAgg 26).run Tryz.prog w = .ok false w∧(isAgg 24).run Tryz.prog w = .ok true w:=by
 refine ⟨?_,?_⟩
 ·simp [isAgg,run_underlying Tryz.underlying26]
 ·simp [isAgg,run_underlying Tryz.underlying24]
theorem size_quota (w:World):(sizeOf 24).run Tryz.prog w = .ok 3 w:=by
 obtain ⟨i,hi,hc⟩:=Option.map_eq_some_iff.1 quota_size
 simp [sizeOf,typeInfo,hi,hc]
theorem field_seq (v0 v1 v2 v3 v4 v5 v6 v7 v8 v9 v10 v11 v12 v13:Value) (w:World):(Instr.field 35 (.agg #[v0,v1,v2,v3,v4,v5,v6,v7,v8,v9,v10,v11,v12,v13]) 4).run Tryz.prog w = .ok v6 w:=by
 have h1:=(agg_rec w).1
 simp [Instr.field,run_underlying Tryz.underlying35,part,h1,asAgg]
def keyA:ByteArray:=⟨#[97]⟩
def valX:ByteArray:=⟨#[120,121]⟩
theorem keyA_size:keyA.size=1:=rfl
theorem valX_size:valX.size=2:=rfl
theorem up_any (w:World):Calls Tryz.prog 4 #[] w fun e w'=>e = .returned (.bool true)∧But (fun _=>False) w w':=by
 have ho0:=ok_new 3 1 0 0 0 (by omega) (by omega)
 have hmay:Rec.May (putR 3 1 keyA valX 1 0):=may_put (by omega) (by omega) (by rw [keyA_size];omega) (by rw [valX_size];omega)
 have hown:Own (newB 3 1 0 0 0) (putR 3 1 keyA valX 1 0):=⟨hmay,rfl,rfl⟩
 have hap:=app_put (T:=noT) (p:=((1:Nat),(0:Nat),(0:Nat))) hown rfl
 have his:=is_put (id:=3) (gen:=1) (key:=keyA) (val:=valX) (ver:=1) (exp:=0) (by omega) (by omega) (by rw [keyA_size];omega) (by rw [valX_size];omega) (by omega) (by omega)
 have hsp:SpOk (((1:Nat):Int),((0:Nat):Int),((0:Nat):Int)):=sp_small (by omega) (by omega) (by omega)
 have hgn:Key.Good noT 0:=Key.good_new
 have hask:Key.ask (Key.put noT (entOf (putR 3 1 keyA valX 1 0) (((1:Nat):Int),((0:Nat):Int),((0:Nat):Int)))) keyA=some (entOf (putR 3 1 keyA valX 1 0) (((1:Nat):Int),((0:Nat):Int),((0:Nat):Int))):=by
  rw [Key.ask_put hgn];rfl
 have hasn:Key.ask noT keyA=none:=by
  unfold Key.ask
  rw [Key.look_new]
 have hcnt:Key.cnt (Key.put noT (entOf (putR 3 1 keyA valX 1 0) (((1:Nat):Int),((0:Nat):Int),((0:Nat):Int))))=1:=by
  rw [Key.cnt_put hgn,show (entOf (putR 3 1 keyA valX 1 0) (((1:Nat):Int),((0:Nat):Int),((0:Nat):Int))).key=keyA from rfl,hasn,Key.cnt_new]
  rfl
 have hbyt:tot (all (Key.put noT (entOf (putR 3 1 keyA valX 1 0) (((1:Nat):Int),((0:Nat):Int),((0:Nat):Int)))))=3:=by
  rw [tot_put hgn,show (entOf (putR 3 1 keyA valX 1 0) (((1:Nat):Int),((0:Nat):Int),((0:Nat):Int))).key=keyA from rfl,hasn,all_new]
  rfl
 have HF:=Lib.hid (And.intro ho0 (And.intro hap (And.intro his (And.intro hsp (And.intro hask (And.intro hcnt hbyt))))))
 clear ho0 hmay hown hap his hsp hgn hask hasn hcnt hbyt
 go_enter Tryz.func4,Tryz.ntmps4
 go_wp2_with fail
 refine (new_any 3 1 0 0 0 _).mono ?_
 rintro e w1 ⟨s,rfl,hm,hf,hb⟩
 have HM:=Lib.hid (And.intro hm (And.intro hf hb))
 clear hm hf hb
 go_wp2_with fail
 refine (apply_any HM.out.1 HF.out.1 (by omega) (putR 3 1 keyA valX 1 0) HF.out.2.2.1 _ HF.out.2.2.2.1).mono ?_
 rintro e w2 ⟨rfl,hmade⟩
 rw [HF.out.2.1.1]
 rw [HF.out.2.1.2.1,HF.out.2.1.2.2] at hmade
 obtain ⟨s1,m1,hm1,ho1,hs1⟩:=hmade
 have HM1:=Lib.hid (And.intro hm1 (And.intro ho1 hs1))
 have hp1:s1.p=s.p:=hs1.p
 have HP1:=Lib.hid hp1
 clear hm1 ho1 hs1
 have hget:=get_any HM1.out.1 keyA (by rw [keyA_size];omega)
 rw [HF.out.2.2.2.2.1,hp1] at hget
 have HG:=Lib.hid hget
 clear hget hp1
 go_wp2_with fail
 refine HG.out.mono ?_
 rintro e w3 ⟨rfl,hb3⟩
 have HX0:=Lib.hid (Blk.new w3 45 (entB Key.zero))
 have HX1:=Lib.hid ((But.refl (fun _=>False) w3).alloc (.cells (entB Key.zero) 45))
 obtain ⟨b4,hb4⟩:∃ b,b=w3.heap.size:=⟨_,rfl⟩
 have HXT:=Lib.hid (blk_there0 (n:=7) HX0.out (by rfl))
 rw [← hb4] at HX0 HXT
 have HXX:=Lib.hid (And.intro (blk_set0 (vs:=Key.ecells (Key.ent ((some (entOf (putR 3 1 keyA valX 1 0) (((1:Nat):Int),((0:Nat):Int),((0:Nat):Int))))))) HX0.out (by rw [Key.ecells_length];rfl)) (HX1.out.trans (but_setCells b4 (Key.ecells (Key.ent ((some (entOf (putR 3 1 keyA valX 1 0) (((1:Nat):Int),((0:Nat):Int),((0:Nat):Int))))))) 0 (w3.alloc (.cells (entB Key.zero) 45))) (fun j hj e=>by omega)))
 obtain ⟨W4,hW4⟩:∃ W,W=(w3.alloc (.cells (entB Key.zero) 45)).setCells b4 0 (Key.ecells (Key.ent ((some (entOf (putR 3 1 keyA valX 1 0) (((1:Nat):Int),((0:Nat):Int),((0:Nat):Int))))))):=⟨_,rfl⟩
 rw [← hW4] at HXX
 have HXE:=Lib.hid hW4
 have HXS:=Lib.hid hb4
 clear hW4 hb4 HX0 HX1
 have HM4:=Lib.hid (HM1.out.1.new (hb3.trans HXX.out.2 (fun _ _ h=>h)))
 have HB4:=Lib.hid (hb3.trans HXX.out.2 (fun _ _ h=>h))
 have x6:W4.cell? ⟨b4,6,none⟩=some (.int .i64 2):=HXX.out.1.cell 6
 have hmeta:=meta_any HM4.out
 rw [HP1.out] at hmeta
 have HMT:=Lib.hid (show Calls Tryz.prog 18 #[.pointer (some ⟨s.p,0,none⟩)] W4 fun e w'=>e = .returned (.agg #[.int .i64 1,.int .i64 3,.int .u32 1,.int .i64 0,.int .i64 0,.int .i64 0,.int .u64 2,.int .u32 1,.int .i64 0,.int .u64 0,.string Rec.nothing,.string Rec.nothing,.int .u64 0,.int .u64 0])∧But (fun _=>False) W4 w' from hmeta)
 clear hmeta hb3
 go_wp2_with (rw [← HXS.out];refine wpList_store_mid rfl 45 _ _ rfl b4 0 (Key.ecells (Key.ent ((some (entOf (putR 3 1 keyA valX 1 0) (((1:Nat):Int),((0:Nat):Int),((0:Nat):Int))))))).toArray rfl rfl (by simp only [List.size_toArray,Key.ecells_length];exact HXT.out) (by simp only [List.size_toArray,Key.ecells_length];exact Key.entry_size) (all_oneCell_toArray (Key.ecells_one _)) ?_;change wpList _ _ _ _ _ ((w3.alloc (.cells (entB Key.zero) 45)).setCells b4 0 (Key.ecells (Key.ent ((some (entOf (putR 3 1 keyA valX 1 0) (((1:Nat):Int),((0:Nat):Int),((0:Nat):Int))))))));rw [← HXE.out])
 refine HMT.out.mono ?_
 rintro e w5 ⟨rfl,hb5⟩
 have HM5:=Lib.hid (HM4.out.new hb5)
 have hk5:=keys_any HM5.out
 rw [HP1.out,HF.out.2.2.2.2.2.1] at hk5
 have HK5:=Lib.hid hk5
 clear hk5 x6
 have fs:=field_seq
 go_wp2_with fail
 clear fs
 refine HK5.out.mono ?_
 rintro e w6 ⟨rfl,hb6⟩
 have HM6:=Lib.hid (HM5.out.new hb6)
 have hk6:=bytes_any HM6.out
 rw [HP1.out] at hk6
 have HK6:=Lib.hid hk6
 clear hk6
 go_wp2_with fail
 refine HK6.out.mono ?_
 rintro e w7 ⟨rfl,hw7⟩
 subst hw7
 (try dsimp only)
 rw [HF.out.2.2.2.2.2.2]
 go_wp2_with fail
 have hz:=apply_any HM6.out HM1.out.2.1 (by omega) Rec.zero is_zero (((0:Nat):Int),((0:Nat):Int),((0:Nat):Int)) (sp_small (by omega) (by omega) (by omega))
 rw [HP1.out,told_zero] at hz
 refine hz.mono ?_
 rintro e w8 ⟨rfl,s8,m8,hm8,ho8,hs8⟩
 have HE:=Lib.hid (show But (fun _=>False) w w8 from by
  have h1:=HM.out.2.2.trans HM1.out.2.2.but (fun j hj hf=>by have:=HM.out.2.1 j hf;omega)
  have h2:=((h1.trans HB4.out (fun _ _ h=>h)).trans hb5 (fun _ _ h=>h)).trans hb6 (fun _ _ h=>h)
  refine h2.trans hs8.but (fun j hj hf=>?_)
  rcases HM1.out.2.2.new j hf with h3|h3
  ·have:=HM.out.2.1 j h3;omega
  ·have:=HM.out.2.2.size;omega)
 clear hz hm8 ho8 hs8
 go_wp2_with fail
 go_ret
 exact ⟨rfl,HE.out⟩
end Go.Proofs.YtgjofinbdigmcaaGreat.Buk
end
