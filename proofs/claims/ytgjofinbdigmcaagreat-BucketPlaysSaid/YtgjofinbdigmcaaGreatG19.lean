/- A bucket in memory: its block, its table of keys, its heap of items, its table of tokens; what one call after the other does to it. Contracts of the bucket's small calls: bytesOf, behind, isOfKey, Get, and the numbers. -/
import Derived.Test.YtgjofinbdigmcaaGreatG18
import Derived.Deep.CutRange
set_option linter.unusedSimpArgs false
set_option linter.unusedVariables false
set_option maxHeartbeats 1000000
set_option maxRecDepth 100000
section
namespace Go.Proofs.YtgjofinbdigmcaaGreat.Buk
open Go.Proofs.YtgjofinbdigmcaaGreat.Mem
open Go.ChangeShapes Go.WideShapes Go.ChangeAt Go.RowKit
structure Bl where
 p:Nat
 kp:Nat
 kg:Nat
 hp:Nat
 hv:Value
 eb:Nat
 tp:Nat
 tm:Nat
def Foot (s:Bl) (k:Nat):Prop:=k=s.p∨k=s.kp∨k=s.kg∨k=s.hp∨s.hv.ownBlock=some k∨k=s.tp∨k=s.tm
def bcells (B:Bk) (s:Bl):Array Value := #[.int .i64 B.id,.int .u32 (B.gen:Int),.int .i64 B.q1,.int .i64 B.q2,.int .i64 B.q3,.int .u64 (B.seq:Int),.int .u32 (B.serial:Int),.pointer (some ⟨s.kp,0,none⟩),.pointer (some ⟨s.hp,0,none⟩),.pointer (some ⟨s.tp,0,none⟩),.int .i64 B.bytes,.int .i64 B.charged]
structure BM (w:World) (s:Bl) (B:Bk) (T:Tab) (m:List It) (i:Nat):Prop where
 blk:Blk w s.p 60 (bcells B s)
 key:Key.KAt w s.kp s.kg T i (Key.cnt T)
 heap:Exp.HM w s.eb s.hp s.hv m
 tok:Rgt.RAt w s.tp s.tm B.toks
structure Step (w:World) (s s':Bl) (w':World):Prop where
 but:But (Foot s) w w'
 new:∀ k,Foot s' k→Foot s k∨w.heap.size≤k
 p:s'.p=s.p
theorem Step.refl (w:World) (s:Bl):Step w s s w:=⟨But.refl _ _,fun k h => .inl h,rfl⟩
theorem Step.trans {w w1 w2:World} {s s1 s2:Bl} (h:Step w s s1 w1) (k:Step w1 s1 s2 w2):Step w s s2 w2 where
 but:=h.but.trans k.but (fun i hi hf=>by
  rcases h.new i hf with h1|h1
  ·exact h1
  ·omega)
 new j hj:=by
  rcases k.new j hj with h1|h1
  ·exact h.new j h1
  ·exact .inr (Nat.le_trans h.but.size h1)
 p:=k.p.trans h.p
theorem Step.of_new {w w':World} {s:Bl} (h:But (fun _=>False) w w'):Step w s s w':=⟨h.mono (fun _ _ h=>h.elim),fun k h => .inl h,rfl⟩
structure Apart (s:Bl):Prop where
 nums:s.p≠s.kp∧s.p≠s.kg∧s.p≠s.hp∧s.p≠s.tp∧s.p≠s.tm∧s.kp≠s.kg∧s.kp≠s.hp∧s.kp≠s.tp∧s.kp≠s.tm∧s.kg≠s.hp∧s.kg≠s.tp∧s.kg≠s.tm∧s.hp≠s.tp∧s.hp≠s.tm∧s.tp≠s.tm
 row:∀ k,s.hv.ownBlock=some k→k≠s.p∧k≠s.kp∧k≠s.kg∧k≠s.hp∧k≠s.tp∧k≠s.tm
section
variable {w w':World} {s:Bl} {B:Bk} {T:Tab} {m:List It} {i:Nat}
theorem own_map_ne {H:Type} {P:Program} {kt:TypeId} {R:Value→Option (DataW H × List MemPlace)} {b n:Nat} {D:DataW H} {base:Nat} {e:TypeId} {size len:Nat} {v:Value} {xs:List Value} (h:w.ownsRow base e size v len xs) (hm:w.ownsMap P kt R b n D):v.ownBlock≠some b:=by
 intro hb
 rcases h.2 with ⟨hv,_⟩|⟨g,cap,cur,hv,_,hh,_⟩
 ·rw [hv] at hb;cases hb
 ·rw [hv] at hb
  simp [Value.ownBlock] at hb
  subst hb
  obtain ⟨es,clock,hx,r⟩:=hm
  rw [hx] at hh
  cases hh
theorem BM.apart (h:BM w s B T m i):Apart s:=by
 obtain ⟨l,hA,_⟩:=h.heap
 have hp:=h.blk
 have hk:=h.key.blk
 have hg:=h.key.row
 have he:=hA.blk
 have ht:=h.tok.blk
 refine ⟨⟨hp.ne_ hk (by decide),hp.ne_ hg (by decide),hp.ne_ he (by decide),hp.ne_ ht (by decide),(h.tok.ne hp).symm,hk.ne_ hg (by decide),hk.ne_ he (by decide),hk.ne_ ht (by decide),(h.tok.ne hk).symm,hg.ne_ he (by decide),hg.ne_ ht (by decide),(h.tok.ne hg).symm,he.ne_ ht (by decide),(h.tok.ne he).symm,(h.tok.ne ht).symm⟩,fun k e=>?_⟩
 obtain ⟨n,D,hm,_⟩:=h.tok.map
 refine ⟨?_,?_,?_,?_,?_,?_⟩ <;> rintro rfl
 ·exact own_blk_ne hA.own hp (by decide) e
 ·exact own_blk_ne hA.own hk (by decide) e
 ·exact own_blk_ne hA.own hg (by decide) e
 ·exact own_blk_ne hA.own he (by decide) e
 ·exact own_blk_ne hA.own ht (by decide) e
 ·exact own_map_ne hA.own hm e
theorem BM.lt (h:BM w s B T m i):∀ k,Foot s k→k < w.heap.size:=by
 rintro k (rfl|rfl|rfl|rfl|e|rfl|rfl)
 ·exact h.blk.lt
 ·exact h.key.blk.lt
 ·exact h.key.row.lt
 ·exact h.heap.lt.1
 ·exact (h.heap.lt.2 k e).2.1
 ·exact h.tok.lt.1
 ·exact h.tok.lt.2
theorem BM.but {F:Nat→Prop} (h:BM w s B T m i) (hb:But F w w') (hF:∀ k,Foot s k→¬ F k):BM w' s B T m i where
 blk:=h.blk.but hb (hF _ (.inl rfl))
 key:=h.key.but hb (hF _ (.inr (.inl rfl))) (hF _ (.inr (.inr (.inl rfl))))
 heap:=h.heap.but hb (hF _ (.inr (.inr (.inr (.inl rfl))))) (fun k e=>hF _ (.inr (.inr (.inr (.inr (.inl e))))))
 tok:=h.tok.but hb (hF _ (.inr (.inr (.inr (.inr (.inr (.inl rfl))))))) (hF _ (.inr (.inr (.inr (.inr (.inr (.inr rfl)))))))
theorem BM.new (h:BM w s B T m i) (hb:But (fun _=>False) w w'):BM w' s B T m i:=h.but hb (fun _ _ h=>h)
theorem BM.step_key (h:BM w s B T m i) {g':Nat} {T':Tab} {i':Nat} (hk:Key.KAt w' s.kp g' T' i' (Key.cnt T')) (hb:But (fun k=>k=s.kp∨k=s.kg) w w') (hg:g'=s.kg∨w.heap.size≤g'):BM w' { s with kg:=g' } B T' m i'∧Step w s { s with kg:=g' } w':=by
 obtain ⟨⟨a1,a2,a3,a4,a5,a6,a7,a8,a9,a10,a11,a12,a13,a14,a15⟩,ar⟩:=h.apart
 refine ⟨⟨h.blk.but hb (by omega),hk,h.heap.but hb (by omega) (fun k e=>by have:=ar k e;omega),h.tok.but hb (by omega) (by omega)⟩,⟨hb.mono (fun k _ e=>?_),fun k hf=>?_,rfl⟩⟩
 ·rcases e with rfl|rfl
  ·exact .inr (.inl rfl)
  ·exact .inr (.inr (.inl rfl))
 ·rcases hf with e|e|e|e
  ·exact .inl (.inl e)
  ·exact .inl (.inr (.inl e))
  ·have e:k=g':=e
   subst e
   rcases hg with e|e
   ·exact .inl (.inr (.inr (.inl e)))
   ·exact .inr e
  ·exact .inl (.inr (.inr (.inr e)))
theorem BM.step_heap (h:BM w s B T m i) {v':Value} {m':List It} (hm:Exp.HM w' s.eb s.hp v' m') (hb:But (Exp.Foot s.hp s.hv) w w') (hn:Exp.Next w s.hv v'):BM w' { s with hv:=v' } B T m' i∧Step w s { s with hv:=v' } w':=by
 obtain ⟨⟨a1,a2,a3,a4,a5,a6,a7,a8,a9,a10,a11,a12,a13,a14,a15⟩,ar⟩:=h.apart
 have hf:∀ k,Exp.Foot s.hp s.hv k→k=s.hp∨s.hv.ownBlock=some k:=fun k e=>e.elim .inl (fun e => .inr e.symm)
 have hno:∀ k,k≠s.hp→(∀ j,s.hv.ownBlock=some j→j≠k)→¬ Exp.Foot s.hp s.hv k:=fun k h1 h2 e=>(hf k e).elim h1 (fun e=>h2 k e rfl)
 refine ⟨⟨h.blk.but hb (hno _ (by omega) (fun j e=>(ar j e).1)),h.key.but hb (hno _ (by omega) (fun j e=>(ar j e).2.1)) (hno _ (by omega) (fun j e=>(ar j e).2.2.1)),hm,h.tok.but hb (hno _ (by omega) (fun j e=>(ar j e).2.2.2.2.1)) (hno _ (by omega) (fun j e=>(ar j e).2.2.2.2.2))⟩,⟨hb.mono (fun k _ e=>?_),fun k e=>?_,rfl⟩⟩
 ·rcases hf k e with e|e
  ·exact .inr (.inr (.inr (.inl e)))
  ·exact .inr (.inr (.inr (.inr (.inl e))))
 ·rcases e with e|e|e|e|e|e
  ·exact .inl (.inl e)
  ·exact .inl (.inr (.inl e))
  ·exact .inl (.inr (.inr (.inl e)))
  ·exact .inl (.inr (.inr (.inr (.inl e))))
  ·rcases hn with hn|hn
   ·exact .inl (.inr (.inr (.inr (.inr (.inl (hn.symm.trans e))))))
   ·exact .inr (hn k e)
  ·exact .inl (.inr (.inr (.inr (.inr (.inr e)))))
theorem BM.step_tok (h:BM w s B T m i) {ts:List Rgt.Tok} (ht:Rgt.RAt w' s.tp s.tm ts) (hb:But (fun k=>k=s.tm) w w'):BM w' s { B with toks:=ts } T m i∧Step w s s w':=by
 obtain ⟨⟨a1,a2,a3,a4,a5,a6,a7,a8,a9,a10,a11,a12,a13,a14,a15⟩,ar⟩:=h.apart
 exact ⟨⟨h.blk.but hb (by omega),h.key.but hb (by omega) (by omega),h.heap.but hb (by omega) (fun k e=>by have:=ar k e;omega),ht⟩,⟨hb.mono (fun k _ e => .inr (.inr (.inr (.inr (.inr (.inr e)))))),fun k hf => .inl hf,rfl⟩⟩
theorem BM.step_cell (h:BM w s B T m i) (n:Nat) (u:Value) {B':Bk} (he:(bcells B s).setIfInBounds n u=bcells B' s) (ht:B'.toks=B.toks):BM (w.setCell ⟨s.p,n,none⟩ u) s B' T m i∧Step w s s (w.setCell ⟨s.p,n,none⟩ u):=by
 obtain ⟨⟨a1,a2,a3,a4,a5,a6,a7,a8,a9,a10,a11,a12,a13,a14,a15⟩,ar⟩:=h.apart
 have hb:But (fun k=>k=s.p) w (w.setCell ⟨s.p,n,none⟩ u):=(But.refl (fun k=>k=s.p) w).setCell (p:=⟨s.p,n,none⟩) rfl u
 have h1:=h.blk.set_ n u
 rw [he] at h1
 refine ⟨⟨h1,h.key.but hb (by omega) (by omega),h.heap.but hb (by omega) (fun k e=>by have:=ar k e;omega),?_⟩,⟨hb.mono (fun k _ e => .inl e),fun k hf => .inl hf,rfl⟩⟩
 rw [ht]
 exact h.tok.but hb (by omega) (by omega)
theorem BM.cell (h:BM w s B T m i) (n:Nat):w.cell? ⟨s.p,n,none⟩=(bcells B s)[n]?:=h.blk.cell n
end
end Go.Proofs.YtgjofinbdigmcaaGreat.Buk
end
section
namespace Go.Proofs.YtgjofinbdigmcaaGreat.Buk
open Go.Proofs.YtgjofinbdigmcaaGreat.Mem
open Go.ChangeShapes Go.WideShapes Go.ChangeAt Go.RowKit
abbrev entB (e:Ent):Array Value:=(Key.ecells e).toArray
theorem bytes_of (e:Ent) (h1:e.key.size≤100000) (h2:0≤e.size∧e.size≤100000) (w:World) :
  Calls Tryz.prog 54 #[Key.ev e] w fun x w'=>x = .returned (.int .i64 (of e))∧But (fun _=>False) w w':=by
 have hx:=Blk.new w 45 (entB e)
 have hb:=(But.refl (fun _=>False) w).alloc (.cells (entB e) 45)
 have HB:=Lib.hid hb
 have x0:(w.alloc (.cells (entB e) 45)).cell? ⟨w.heap.size,0,none⟩=some (.string e.key):=hx.cell 0
 have x6:(w.alloc (.cells (entB e) 45)).cell? ⟨w.heap.size,6,none⟩=some (.int .i64 e.size):=hx.cell 6
 unfold of
 obtain ⟨n,hn⟩:∃ n,n=e.key.size:=⟨_,rfl⟩
 change Calls _ _ #[.agg #[.string e.key,.int .i64 e.seg,.int .i64 e.at_,.int .i64 e.len,.int .u64 (e.ver:Int),.int .u64 (e.exp:Int),.int .i64 e.size]] w _
 clear hx hb
 go_enter Tryz.func54,Tryz.ntmps54
 go_wp2_with fail
 go_ret
 exact ⟨by first|rfl|(simp;omega),HB.out⟩
theorem behind64 (c n:Nat) (hc:c < 18446744073709551616) (hn:n < 18446744073709551616) (w:World) :
  Calls Tryz.prog 30 #[.int .u64 (c:Int),.int .u64 (n:Int)] w fun x w'=>x = .returned (.int .u64 ((b64 c n:Nat):Int))∧w=w':=by
 obtain ⟨v,hv,hv2⟩:∃ v:Nat,IntKind.u64.wrap ((n:Int)+1)=(v:Int)∧(n=18446744073709551615∧v=0∨n < 18446744073709551615∧v=n+1):=by
  by_cases h:n=18446744073709551615
  ·exact ⟨0,by rw [h];rfl,.inl ⟨h,rfl⟩⟩
  ·exact ⟨n+1,by rw [IntWalk.u64_in _ (by omega)];rfl,.inr ⟨by omega,rfl⟩⟩
 have H:=Lib.hid (And.intro hc (And.intro hn hv2))
 clear hc hn hv2
 go_enter Tryz.func30,Tryz.ntmps30
 go_wp2
 all_goals (try go_ret)
 all_goals (refine ⟨congrArg (fun z=>Ending.returned (Value.int IntKind.u64 z)) ?_,rfl⟩;have:=H.out;unfold b64 bump)
 all_goals (first|omega|(split at * <;> omega)|(simp at *; omega))
theorem behind32 (c n:Nat) (hc:c < 4294967296) (hn:n < 4294967296) (w:World) :
  Calls Tryz.prog 32 #[.int .u32 (c:Int),.int .u32 (n:Int)] w fun x w'=>x = .returned (.int .u32 ((b32 c n:Nat):Int))∧w=w':=by
 obtain ⟨v,hv,hv2⟩:∃ v:Nat,IntKind.u32.wrap ((n:Int)+1)=(v:Int)∧(n=4294967295∧v=0∨n < 4294967295∧v=n+1):=by
  by_cases h:n=4294967295
  ·exact ⟨0,by rw [h];rfl,.inl ⟨h,rfl⟩⟩
  ·exact ⟨n+1,by rw [IntWalk.u32_in _ (by omega)];rfl,.inr ⟨by omega,rfl⟩⟩
 have H:=Lib.hid (And.intro hc (And.intro hn hv2))
 clear hc hn hv2
 go_enter Tryz.func32,Tryz.ntmps32
 go_wp2
 all_goals (try go_ret)
 all_goals (refine ⟨congrArg (fun z=>Ending.returned (Value.int IntKind.u32 z)) ?_,rfl⟩;have:=H.out;unfold b32 bump)
 all_goals (first|omega|(split at * <;> omega)|(simp at *; omega))
section
variable {w w':World} {s:Bl} {B:Bk} {T:Tab} {m:List It} {i:Nat}
theorem keys_any (h:BM w s B T m i):Calls Tryz.prog 19 #[.pointer (some ⟨s.p,0,none⟩)] w fun e w'=>e = .returned (.int .i64 (Key.cnt T:Int))∧But (fun _=>False) w w':=by
 have k7:w.cell? ⟨s.p,7,none⟩=some (.pointer (some ⟨s.kp,0,none⟩)):=h.cell 7
 have HL:=Lib.hid (Key.klen_any h.key)
 have hc:Key.cnt T≤400:=by have:=h.key.good.few;have:=h.key.few;omega
 obtain ⟨c,hcd⟩:∃ c,c=Key.cnt T:=⟨_,rfl⟩
 rw [← hcd] at HL hc ⊢
 clear h hcd
 go_enter Tryz.func19,Tryz.ntmps19
 go_wp2_with fail
 refine HL.out.mono ?_
 rintro e w' ⟨rfl,rfl⟩
 go_wp2_with fail
 go_ret
 exact ⟨by first|rfl|(simp;omega),But.refl _ _⟩
theorem bytes_any (h:BM w s B T m i):Calls Tryz.prog 20 #[.pointer (some ⟨s.p,0,none⟩)] w fun e w'=>e = .returned (.int .i64 B.bytes)∧w=w':=by
 have k7:w.cell? ⟨s.p,10,none⟩=some (.int .i64 B.bytes):=h.cell 10
 clear h
 go_enter Tryz.func20,Tryz.ntmps20
 go_wp2_with fail
 go_ret
 exact ⟨rfl,rfl⟩
theorem charged_any (h:BM w s B T m i):Calls Tryz.prog 43 #[.pointer (some ⟨s.p,0,none⟩)] w fun e w'=>e = .returned (.int .i64 B.charged)∧w=w':=by
 have k7:w.cell? ⟨s.p,11,none⟩=some (.int .i64 B.charged):=h.cell 11
 clear h
 go_enter Tryz.func43,Tryz.ntmps43
 go_wp2_with fail
 go_ret
 exact ⟨rfl,rfl⟩
theorem get_any (h:BM w s B T m i) (k:ByteArray) (hk:k.size≤200):Calls Tryz.prog 14 #[.pointer (some ⟨s.p,0,none⟩),.string k] w fun e w'=>e = .returned (.tuple #[Key.ev (Key.ent (Key.ask T k)),.bool (Key.ask T k).isSome])∧But (fun _=>False) w w':=by
 have HX:=Lib.hid (Blk.new w 45 (entB Key.zero))
 have HB:=Lib.hid ((But.refl (fun _=>False) w).alloc (.cells (entB Key.zero) 45))
 have hW:=h.new HB.out
 have k7:(w.alloc (.cells #[.string ⟨#[]⟩,.int .i64 0,.int .i64 0,.int .i64 0,.int .u64 0,.int .u64 0,.int .i64 0] 45)).cell? ⟨s.p,7,none⟩=some (.pointer (some ⟨s.kp,0,none⟩)):=hW.cell 7
 have HG:=Lib.hid (Key.kget_any hW.key k hk)
 obtain ⟨o,ho⟩:∃ o,o=Key.ask T k:=⟨_,rfl⟩
 rw [← ho] at HG ⊢
 clear h hW ho
 go_enter Tryz.func14,Tryz.ntmps14
 go_wp2_with fail
 change Calls _ _ _ (w.alloc (.cells (entB Key.zero) 45)) _
 refine HG.out.mono ?_
 rintro e w1 ⟨rfl,hb1⟩
 have HX1:=Lib.hid (HX.out.but hb1 (fun h=>h))
 have HB1:=Lib.hid (HB.out.trans hb1 (fun _ _ h=>h))
 obtain ⟨b,hb⟩:∃ b,b=w.heap.size:=⟨_,rfl⟩
 rw [← hb] at HX1 ⊢
 have HBE:=Lib.hid hb
 clear hb hb1 k7
 have HT:=Lib.hid (blk_there0 HX1.out (n:=7) (by rfl))
 go_wp2_with (refine wpList_store_mid rfl 45 _ _ rfl b 0 (Key.ecells (Key.ent o)).toArray rfl rfl (by simp only [List.size_toArray,Key.ecells_length];exact HT.out) (by simp only [List.size_toArray,Key.ecells_length];exact Key.entry_size) (all_oneCell_toArray (Key.ecells_one _)) ?_)
 have HS:=Lib.hid (And.intro (blk_set0 (vs:=Key.ecells (Key.ent o)) HX1.out (by rw [Key.ecells_length];rfl)) (HB1.out.trans (but_setCells b (Key.ecells (Key.ent o)) 0 w1) (fun k hk e=>by have:=HBE.out;omega)))
 change bodyPost _ _ _ _ _ (w1.setCells b 0 (Key.ecells (Key.ent o)))
 generalize w1.setCells b 0 (Key.ecells (Key.ent o))=W3 at HS ⊢
 refine bodyPost_ret (Key.results_row_tmp rfl _ _ b 45 (Key.ecells (Key.ent o)).toArray (0,0) _ rfl HS.out.1 Tryz.underlying45 rfl Key.entry_size) rfl ?_
 exact ⟨rfl,HS.out.2⟩
abbrev itB (x:It):Array Value := #[.int .u64 (x.time:Int),.string x.key]
theorem isof_any (h:BM w s B T m i) (x:It) (hx:x.key.size≤200):Calls Tryz.prog 25 #[.pointer (some ⟨s.p,0,none⟩),.agg #[.int .u64 (x.time:Int),.string x.key]] w fun e w'=>e = .returned (.bool (isOf T x))∧But (fun _=>False) w w':=by
 have HX:=Lib.hid (Blk.new w 68 (itB x))
 have HB0:=Lib.hid ((But.refl (fun _=>False) w).alloc (.cells (itB x) 68))
 have HG:=Lib.hid (fun V (hV:But (fun _=>False) w V)=>Key.kget_any (h.new hV).key x.key hx)
 have HC7:=Lib.hid (fun V (hV:But (fun _=>False) w V)=>show V.cell? ⟨s.p,7,none⟩=some (.pointer (some ⟨s.kp,0,none⟩)) from (h.new hV).cell 7)
 unfold isOf
 obtain ⟨o,ho⟩:∃ o,o=Key.ask T x.key:=⟨_,rfl⟩
 rw [← ho] at HG ⊢
 clear h ho
 go_enter Tryz.func25,Tryz.ntmps25
 go_wp2_with fail
 obtain ⟨b3,hb3⟩:∃ b,b=w.heap.size:=⟨_,rfl⟩
 change Code.wp _ _ _ _ (w.alloc (.cells (itB x) 68))
 rw [← hb3] at HX ⊢
 generalize w.alloc (.cells (itB x) 68)=W at HX HB0 ⊢
 have HBL:=Lib.hid (show w.heap.size≤b3 by omega)
 clear hb3
 have HXC:=Lib.hid (fun V (hV:Blk V b3 68 (itB x))=>(And.intro (show V.cell? ⟨b3,0,none⟩=some (.int .u64 (x.time:Int)) from hV.cell 0) (show V.cell? ⟨b3,1,none⟩=some (.string x.key) from hV.cell 1)))
 refine Late.region_goes (fun V=>But (fun _=>False) w V∧Blk V b3 68 (itB x)) (fun _=>false) (by kernel_rfl) ?_ (fun hH=>?_)
 ·exact ⟨HB0.out.drew,HX.out.but ((But.refl (fun _=>False) W).drew) (fun h=>h)⟩
 refine Late.Goes.takeT (i:=0) (v:=?_) (by simp only [List.getElem?_toArray,List.getElem?_cons_succ,List.getElem?_cons_zero];rfl) (by kernel_rfl) (by kernel_rfl) (by kernel_rfl) (by kernel_rfl) (by kernel_rfl) (by exact fun _ _ _ h=>h) (Or.inl ⟨by rfl,?_⟩) hH ?_
 rotate_left
 ·(intro wy hSw;(try dsimp only at hSw);have k0:=HC7.out wy hSw.1;have k1:=(HXC.out wy hSw.2).2;go_simp;try (with_reducible rfl))
 try simp only [Act.put,List.setIfInBounds_toArray,List.set_cons_zero,List.set_cons_succ]
 refine Late.Goes.takeT (i:=1) (v:=?_) (by simp only [List.getElem?_toArray,List.getElem?_cons_succ,List.getElem?_cons_zero];rfl) (by kernel_rfl) (by kernel_rfl) (by kernel_rfl) (by kernel_rfl) (by kernel_rfl) (by exact fun _ _ _ h=>h) (Or.inl ⟨by rfl,?_⟩) hH ?_
 rotate_left
 ·(intro wy hSw;(try dsimp only at hSw);have k0:=HC7.out wy hSw.1;have k1:=(HXC.out wy hSw.2).2;go_simp;try (with_reducible rfl))
 try simp only [Act.put,List.setIfInBounds_toArray,List.set_cons_zero,List.set_cons_succ]
 refine Late.Goes.takeT (i:=2) (v:=?_) (by simp only [List.getElem?_toArray,List.getElem?_cons_succ,List.getElem?_cons_zero];rfl) (by kernel_rfl) (by kernel_rfl) (by kernel_rfl) (by kernel_rfl) (by kernel_rfl) (by exact fun _ _ _ h=>h) (Or.inl ⟨by rfl,?_⟩) hH ?_
 rotate_left
 ·(intro wy hSw;(try dsimp only at hSw);have k0:=HC7.out wy hSw.1;have k1:=(HXC.out wy hSw.2).2;go_simp;try (with_reducible rfl))
 try simp only [Act.put,List.setIfInBounds_toArray,List.set_cons_zero,List.set_cons_succ]
 refine Late.Goes.takeT (i:=3) (v:=?_) (by simp only [List.getElem?_toArray,List.getElem?_cons_succ,List.getElem?_cons_zero];rfl) (by kernel_rfl) (by kernel_rfl) (by kernel_rfl) (by kernel_rfl) (by kernel_rfl) (by exact fun _ _ _ h=>h) (Or.inl ⟨by rfl,?_⟩) hH ?_
 rotate_left
 ·(intro wy hSw;(try dsimp only at hSw);have k0:=HC7.out wy hSw.1;have k1:=(HXC.out wy hSw.2).2;go_simp;try (with_reducible rfl))
 try simp only [Act.put,List.setIfInBounds_toArray,List.set_cons_zero,List.set_cons_succ]
 refine Late.Goes.takeT (i:=4) (v:=?_) (by simp only [List.getElem?_toArray,List.getElem?_cons_succ,List.getElem?_cons_zero];rfl) (by kernel_rfl) (by kernel_rfl) (by kernel_rfl) (by kernel_rfl) (by kernel_rfl) (by exact fun _ _ _ h=>h) (Or.inl ⟨by rfl,?_⟩) hH ?_
 rotate_left
 ·(intro wy hSw;(try dsimp only at hSw);have k0:=HC7.out wy hSw.1;have k1:=(HXC.out wy hSw.2).2;go_simp;try (with_reducible rfl))
 try simp only [Act.put,List.setIfInBounds_toArray,List.set_cons_zero,List.set_cons_succ]
 refine Late.Goes.takeT (i:=5) (v:=?_) (by simp only [List.getElem?_toArray,List.getElem?_cons_succ,List.getElem?_cons_zero];rfl) (by kernel_rfl) (by kernel_rfl) (by kernel_rfl) (by kernel_rfl) (by kernel_rfl) (by exact fun _ _ _ h=>h) (Or.inl ⟨by rfl,?_⟩) hH ?_
 rotate_left
 ·(intro wy hSw;(try dsimp only at hSw);have k0:=HC7.out wy hSw.1;have k1:=(HXC.out wy hSw.2).2;go_simp;try (with_reducible rfl))
 try simp only [Act.put,List.setIfInBounds_toArray,List.set_cons_zero,List.set_cons_succ]
 have HS1:=Lib.hid hH
 refine Late.Goes.two (i:=6) (j:=10) (by kernel_rfl) (by simp only [List.getElem?_toArray,List.getElem?_cons_succ,List.getElem?_cons_zero];rfl) (by simp only [List.getElem?_toArray,List.getElem?_cons_succ,List.getElem?_cons_zero];rfl) (fun K hK=>?_) (fun K hK=>?_) <;> clear hH
 ·go_simp
  go_at_call 48
  refine (HG.out _ HS1.out.1).mono ?_
  rintro e w1 ⟨rfl,hb1⟩
  have HS2:=Lib.hid (And.intro (HS1.out.1.trans hb1 (fun _ _ h=>h)) (HS1.out.2.but hb1 (fun h=>h)))
  refine hK.out _ _ ?_ (fun hH=>?_)
  ·exact fun _=>HS2.out
  clear hK K
  have hH:=hH rfl
  try simp only [Act.put,List.setIfInBounds_toArray,List.set_cons_zero,List.set_cons_succ]
  refine Late.Goes.takeT (i:=7) (v:=?_) (by simp only [List.getElem?_toArray,List.getElem?_cons_succ,List.getElem?_cons_zero];rfl) (by kernel_rfl) (by kernel_rfl) (by kernel_rfl) (by kernel_rfl) (by kernel_rfl) (by exact fun _ _ _ h=>h) (Or.inl ⟨by rfl,?_⟩) hH ?_
  rotate_left
  ·(intro wy hSw;(try dsimp only at hSw);have k0:=HC7.out wy hSw.1;have k1:=(HXC.out wy hSw.2).2;go_simp;try (with_reducible rfl))
  try simp only [Act.put,List.setIfInBounds_toArray,List.set_cons_zero,List.set_cons_succ]
  refine Late.Goes.takeT (i:=8) (v:=?_) (by simp only [List.getElem?_toArray,List.getElem?_cons_succ,List.getElem?_cons_zero];rfl) (by kernel_rfl) (by kernel_rfl) (by kernel_rfl) (by kernel_rfl) (by kernel_rfl) (by exact fun _ _ _ h=>h) (Or.inl ⟨by rfl,?_⟩) hH ?_
  rotate_left
  ·(intro wy hSw;(try dsimp only at hSw);have k0:=HC7.out wy hSw.1;have k1:=(HXC.out wy hSw.2).2;go_simp;try (with_reducible rfl))
  try simp only [Act.put,List.setIfInBounds_toArray,List.set_cons_zero,List.set_cons_succ]
  refine Late.Goes.takeT (i:=9) (v:=?_) (by simp only [List.getElem?_toArray,List.getElem?_cons_succ,List.getElem?_cons_zero];rfl) (by kernel_rfl) (by kernel_rfl) (by kernel_rfl) (by kernel_rfl) (by kernel_rfl) (by exact fun _ _ _ h=>h) (Or.inl ⟨by rfl,?_⟩) hH ?_
  rotate_left
  ·(intro wy hSw;(try dsimp only at hSw);have k0:=HC7.out wy hSw.1;have k1:=(HXC.out wy hSw.2).2;go_simp;try (with_reducible rfl))
  try simp only [Act.put,List.setIfInBounds_toArray,List.set_cons_zero,List.set_cons_succ]
  refine Late.Goes.one (i:=10) (by kernel_rfl) (by simp only [List.getElem?_toArray,List.getElem?_cons_succ,List.getElem?_cons_zero];rfl) (fun K hK=>?_)
  clear hH
  go_simp
  have HS3:=Lib.hid (show But (fun _=>False) w (w1.alloc (.cells (entB Key.zero) 45))∧Blk (w1.alloc (.cells (entB Key.zero) 45)) b3 68 (itB x)∧Blk (w1.alloc (.cells (entB Key.zero) 45)) w1.heap.size 45 (entB Key.zero) from ⟨HS2.out.1.alloc _,HS2.out.2.but ((But.refl (fun _=>False) _).alloc _) (fun h=>h),Blk.new _ _ _⟩)
  have HS4:=Lib.hid (show w.heap.size≤w1.heap.size from HS2.out.1.size)
  change K (_:Act) (w1.alloc (.cells (entB Key.zero) 45))
  generalize w1.alloc (.cells (entB Key.zero) 45)=W3 at HS3 ⊢
  generalize w1.heap.size=b5 at HS3 HS4 ⊢
  refine hK.out _ _ ?_ (fun hH=>?_)
  ·exact fun _=>⟨HS3.out.1,HS3.out.2.1⟩
  clear hK K
  have hH:=hH rfl
  try simp only [Act.put,List.setIfInBounds_toArray,List.set_cons_zero,List.set_cons_succ]
  refine Late.Goes.one (i:=11) (by kernel_rfl) (by simp only [List.getElem?_toArray,List.getElem?_cons_succ,List.getElem?_cons_zero];rfl) (fun K hK=>?_)
  clear hH
  refine Key.wp_store_blk (by rfl) 45 _ _ rfl b5 0 (Key.ecells (Key.ent o)) rfl rfl (blk_there0 HS3.out.2.2 (by rfl)) (by rw [Key.ecells_length];exact Key.entry_size) (Key.ecells_one _) ?_
  have HS5:=Lib.hid (And.intro (HS3.out.1.trans (but_setCells b5 (Key.ecells (Key.ent o)) 0 W3) (fun k hk e=>by have:=HS4.out;omega)) (And.intro (HS3.out.2.1.but (but_setCells b5 (Key.ecells (Key.ent o)) 0 W3) (fun e=>HS3.out.2.1.ne_ HS3.out.2.2 (by decide) e)) (blk_set0 (vs:=Key.ecells (Key.ent o)) HS3.out.2.2 (by rw [Key.ecells_length];rfl))))
  generalize W3.setCells b5 0 (Key.ecells (Key.ent o))=W5 at HS5 ⊢
  refine hK.out _ _ ?_ (fun hH=>?_)
  ·exact fun _=>⟨HS5.out.1,HS5.out.2.1⟩
  clear hK K
  have hH:=hH rfl
  try simp only [Act.put,List.setIfInBounds_toArray,List.set_cons_zero,List.set_cons_succ]
  refine Late.Goes.takeT (i:=12) (v:=?_) (by simp only [List.getElem?_toArray,List.getElem?_cons_succ,List.getElem?_cons_zero];rfl) (by kernel_rfl) (by kernel_rfl) (by kernel_rfl) (by kernel_rfl) (by kernel_rfl) (by exact fun _ _ _ h=>h) (Or.inl ⟨by rfl,?_⟩) hH ?_
  rotate_left
  ·(intro wy hSw;(try dsimp only at hSw);have k0:=HC7.out wy hSw.1;have k1:=(HXC.out wy hSw.2).2;go_simp;try (with_reducible rfl))
  try simp only [Act.put,List.setIfInBounds_toArray,List.set_cons_zero,List.set_cons_succ]
  refine Late.Goes.done (by kernel_rfl) ?_ _
  have y4:W5.cell? ⟨b5,5,none⟩=some (.int .u64 ((Key.ent o).exp:Int)):=HS5.out.2.2.cell 5
  have y0:=(HXC.out _ HS5.out.2.1).1
  cases o with
  | none =>
   go_wp2
   go_ret
   exact ⟨rfl,HS5.out.1⟩
  | some e =>
   have hd:((e.exp:Int) == (x.time:Int))=decide (e.exp=x.time):=by rw [Bool.eq_iff_iff];simp [Int.natCast_inj]
   have y4:W5.cell? ⟨b5,5,none⟩=some (.int .u64 (e.exp:Int)):=y4
   go_wp2
   go_ret
   exact ⟨by first|rfl|(simp;exact hd),HS5.out.1⟩
 ·skip
  go_simp
  have HS2:=Lib.hid (show But (fun _=>False) w (W.drew.alloc (.cells (entB Key.zero) 45))∧Blk (W.drew.alloc (.cells (entB Key.zero) 45)) b3 68 (itB x)∧Blk (W.drew.alloc (.cells (entB Key.zero) 45)) W.heap.size 45 (entB Key.zero) from ⟨HS1.out.1.alloc _,HS1.out.2.but ((But.refl (fun _=>False) _).alloc _) (fun h=>h),Blk.new _ _ _⟩)
  have HS4:=Lib.hid (show w.heap.size≤W.heap.size from HB0.out.size)
  change K (_:Act) (W.drew.alloc (.cells (entB Key.zero) 45))
  generalize W.drew.alloc (.cells (entB Key.zero) 45)=W2 at HS2 ⊢
  obtain ⟨b5,hb5⟩:∃ b,b=W.heap.size:=⟨_,rfl⟩
  rw [← hb5] at HS2 HS4 ⊢
  clear hb5
  refine hK.out _ _ ?_ (fun hH=>?_)
  ·exact fun _=>⟨HS2.out.1,HS2.out.2.1⟩
  clear hK K
  have hH:=hH rfl
  try simp only [Act.put,List.setIfInBounds_toArray,List.set_cons_zero,List.set_cons_succ]
  refine Late.Goes.one (i:=6) (by kernel_rfl) (by simp only [List.getElem?_toArray,List.getElem?_cons_succ,List.getElem?_cons_zero];rfl) (fun K hK=>?_)
  clear hH
  go_simp
  go_at_call 48
  refine (HG.out _ HS2.out.1).mono ?_
  rintro e w1 ⟨rfl,hb1⟩
  have HS3:=Lib.hid (And.intro (HS2.out.1.trans hb1 (fun _ _ h=>h)) (And.intro (HS2.out.2.1.but hb1 (fun h=>h)) (HS2.out.2.2.but hb1 (fun h=>h))))
  refine hK.out _ _ ?_ (fun hH=>?_)
  ·exact fun _=>⟨HS3.out.1,HS3.out.2.1⟩
  clear hK K
  have hH:=hH rfl
  try simp only [Act.put,List.setIfInBounds_toArray,List.set_cons_zero,List.set_cons_succ]
  refine Late.Goes.takeT (i:=7) (v:=?_) (by simp only [List.getElem?_toArray,List.getElem?_cons_succ,List.getElem?_cons_zero];rfl) (by kernel_rfl) (by kernel_rfl) (by kernel_rfl) (by kernel_rfl) (by kernel_rfl) (by exact fun _ _ _ h=>h) (Or.inl ⟨by rfl,?_⟩) hH ?_
  rotate_left
  ·(intro wy hSw;(try dsimp only at hSw);have k0:=HC7.out wy hSw.1;have k1:=(HXC.out wy hSw.2).2;go_simp;try (with_reducible rfl))
  try simp only [Act.put,List.setIfInBounds_toArray,List.set_cons_zero,List.set_cons_succ]
  refine Late.Goes.takeT (i:=8) (v:=?_) (by simp only [List.getElem?_toArray,List.getElem?_cons_succ,List.getElem?_cons_zero];rfl) (by kernel_rfl) (by kernel_rfl) (by kernel_rfl) (by kernel_rfl) (by kernel_rfl) (by exact fun _ _ _ h=>h) (Or.inl ⟨by rfl,?_⟩) hH ?_
  rotate_left
  ·(intro wy hSw;(try dsimp only at hSw);have k0:=HC7.out wy hSw.1;have k1:=(HXC.out wy hSw.2).2;go_simp;try (with_reducible rfl))
  try simp only [Act.put,List.setIfInBounds_toArray,List.set_cons_zero,List.set_cons_succ]
  refine Late.Goes.takeT (i:=9) (v:=?_) (by simp only [List.getElem?_toArray,List.getElem?_cons_succ,List.getElem?_cons_zero];rfl) (by kernel_rfl) (by kernel_rfl) (by kernel_rfl) (by kernel_rfl) (by kernel_rfl) (by exact fun _ _ _ h=>h) (Or.inl ⟨by rfl,?_⟩) hH ?_
  rotate_left
  ·(intro wy hSw;(try dsimp only at hSw);have k0:=HC7.out wy hSw.1;have k1:=(HXC.out wy hSw.2).2;go_simp;try (with_reducible rfl))
  try simp only [Act.put,List.setIfInBounds_toArray,List.set_cons_zero,List.set_cons_succ]
  refine Late.Goes.one (i:=11) (by kernel_rfl) (by simp only [List.getElem?_toArray,List.getElem?_cons_succ,List.getElem?_cons_zero];rfl) (fun K hK=>?_)
  clear hH
  refine Key.wp_store_blk (by rfl) 45 _ _ rfl b5 0 (Key.ecells (Key.ent o)) rfl rfl (blk_there0 HS3.out.2.2 (by rfl)) (by rw [Key.ecells_length];exact Key.entry_size) (Key.ecells_one _) ?_
  have HS5:=Lib.hid (And.intro (HS3.out.1.trans (but_setCells b5 (Key.ecells (Key.ent o)) 0 w1) (fun k hk e=>by have:=HS4.out;omega)) (And.intro (HS3.out.2.1.but (but_setCells b5 (Key.ecells (Key.ent o)) 0 w1) (fun e=>HS3.out.2.1.ne_ HS3.out.2.2 (by decide) e)) (blk_set0 (vs:=Key.ecells (Key.ent o)) HS3.out.2.2 (by rw [Key.ecells_length];rfl))))
  generalize w1.setCells b5 0 (Key.ecells (Key.ent o))=W5 at HS5 ⊢
  refine hK.out _ _ ?_ (fun hH=>?_)
  ·exact fun _=>⟨HS5.out.1,HS5.out.2.1⟩
  clear hK K
  have hH:=hH rfl
  try simp only [Act.put,List.setIfInBounds_toArray,List.set_cons_zero,List.set_cons_succ]
  refine Late.Goes.takeT (i:=12) (v:=?_) (by simp only [List.getElem?_toArray,List.getElem?_cons_succ,List.getElem?_cons_zero];rfl) (by kernel_rfl) (by kernel_rfl) (by kernel_rfl) (by kernel_rfl) (by kernel_rfl) (by exact fun _ _ _ h=>h) (Or.inl ⟨by rfl,?_⟩) hH ?_
  rotate_left
  ·(intro wy hSw;(try dsimp only at hSw);have k0:=HC7.out wy hSw.1;have k1:=(HXC.out wy hSw.2).2;go_simp;try (with_reducible rfl))
  try simp only [Act.put,List.setIfInBounds_toArray,List.set_cons_zero,List.set_cons_succ]
  refine Late.Goes.done (by kernel_rfl) ?_ _
  have y4:W5.cell? ⟨b5,5,none⟩=some (.int .u64 ((Key.ent o).exp:Int)):=HS5.out.2.2.cell 5
  have y0:=(HXC.out _ HS5.out.2.1).1
  cases o with
  | none =>
   go_wp2
   go_ret
   exact ⟨rfl,HS5.out.1⟩
  | some e =>
   have hd:((e.exp:Int) == (x.time:Int))=decide (e.exp=x.time):=by rw [Bool.eq_iff_iff];simp [Int.natCast_inj]
   have y4:W5.cell? ⟨b5,5,none⟩=some (.int .u64 (e.exp:Int)):=y4
   go_wp2
   go_ret
   exact ⟨by first|rfl|(simp;exact hd),HS5.out.1⟩
end
end Go.Proofs.YtgjofinbdigmcaaGreat.Buk
end
