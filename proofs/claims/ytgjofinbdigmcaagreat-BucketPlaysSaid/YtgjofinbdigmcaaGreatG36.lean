/- The document's Rights, Tick, Puts, Recharge. -/
import Derived.Test.YtgjofinbdigmcaaGreatG35
set_option linter.unusedSimpArgs false
set_option linter.unusedVariables false
set_option maxHeartbeats 4000000
set_option maxRecDepth 100000
namespace Go.Proofs.YtgjofinbdigmcaaGreat.Buk
open Go.Proofs.YtgjofinbdigmcaaGreat.Mem
open Go.ChangeShapes Go.WideShapes Go.ChangeAt Go.RowKit
def putK (B:Bk) (x:RK):Rcd:=putS B.id B.gen x.key x.val x.ver x.exp
def csum:List Rcd→Int
 | []=>0
 | r :: l=>Rec.costOf r+csum l
theorem csum_snoc (l:List Rcd) (r:Rcd):csum (l++[r])=csum l+Rec.costOf r:=by
 induction l with
 | nil=>show _+0=0+_;omega
 | cons y l ih=>simp only [List.cons_append,csum,ih];omega
theorem csum_append (a b:List Rcd):csum (a++b)=csum a+csum b:=by
 induction a with
 | nil=>show _=0+_;rw [List.nil_append];omega
 | cons y l ih=>simp only [List.cons_append,csum,ih];omega
structure OkX (x:RK):Prop where
 key:1≤x.key.size∧x.key.size≤64
 val:x.val.size≤1000
 ver:x.ver < 18446744073709551616
 exp:x.exp < 18446744073709551616
theorem csum_puts {B:Bk} (hid:0≤B.id∧B.id < 64) (hg:1≤B.gen):∀ {Ks:List RK},(∀ x ∈ Ks,OkX x)→csum (Ks.map (putK B))=34 * (Ks.length:Int)+kbytes Ks
 | [],_=>rfl
 | x :: Ks,h=>by
  have hx:=h x (List.mem_cons_self ..)
  have ih:=csum_puts hid hg (Ks:=Ks) (fun y hy=>h y (List.mem_cons_of_mem _ hy))
  have hc:Rec.costOf (putK B x)=34+(x.key.size:Int)+(x.val.size:Int):=cost_put (may_putS hid hg hx.key hx.val) rfl
  simp only [List.map_cons,csum,ih,hc,kbytes,List.length_cons]
  omega
theorem csum_toks {B:Bk} (hid:0≤B.id∧B.id < 64) (hg:1≤B.gen):∀ {ts:List Rgt.Tok},Rgt.AllOk ts→csum (ts.map (tokR B.id B.gen))=tokC ts.length
 | [],_=>rfl
 | x :: ts,h=>by
  have ih:=csum_toks hid hg (ts:=ts) (fun y hy=>h y (List.mem_cons_of_mem _ hy))
  have hc:Rec.costOf (tokR B.id B.gen x)=27:=cost_tok (may_tokR hid hg (h x (List.mem_cons_self ..))) rfl
  simp only [List.map_cons,csum,ih,hc,tokC,List.length_cons]
  omega
theorem own_all {w:World} {base k n:Nat} {T:TypeId} {v:Value} {xs:List Value} (h:w.ownsRow base T k v n xs):Sees w k v n xs:=by
 have hx:=h.1
 rcases h.2 with ⟨rfl,h0⟩|⟨g,cap,cur,rfl,_⟩
 ·subst h0
  exact .inl ⟨rfl,rfl,List.eq_nil_of_length_eq_zero (by rw [hx];omega)⟩
 ·have h1:=own_sees h (i:=0) (j:=n) (o:=0) (d:=cap) (by omega) (.inr (by omega))
  rwa [Nat.zero_mul,List.drop_zero,List.take_of_length_le (by rw [hx];exact Nat.le_refl _)] at h1
section
variable {w w':World} {rp:Nat} {kv tv:Value} {B:Bk} {Ks:List RK}
theorem rtick_any (h:RM w rp kv tv B Ks) (hl:Ks.length≤1000) (now:Nat):Calls Tryz.prog 8 #[.pointer (some ⟨rp,0,none⟩),.int .u64 (now:Int)] w fun e w'=>e = .returned (.int .i64 ((Ks.length:Int) - ((Ks.filter (stays now)).length:Int)))∧(∃ kv',RM w' rp kv' tv B (Ks.filter (stays now)))∧But (fun k=>k=rp) w w':=by
 obtain ⟨i0,hi0,hz⟩:=Option.map_eq_some_iff.1 kzero
 simp only [Prod.mk.injEq] at hz
 obtain ⟨hz0,hz1,hz2⟩:=hz
 have HH:=Lib.hid h
 rcases h.kform with ⟨hnil,a,c,hkv⟩|⟨g,c,hkv⟩
 ·have k7:w.cell? ⟨rp,7,none⟩=some (.slice a 0 c):=by rw [← hkv];exact h.blk.cell 7
  have f7:w.frozen? ⟨rp,7,none⟩=false:=h.blk.frozen 7
  have HN:=Lib.hid hnil
  have HS:=Lib.hid (h.setk (base:=0) (kv' := .slice none 0 0) (K':=[]) (World.ownsRow_nil _ _ _ _))
  clear h hkv hnil hl hz0 hz1 hz2 hi0
  go_enter Tryz.func8,Tryz.ntmps8
  go_wp2_with fail
  go_loopw [5,6] (fun u v wr=>u = .slice none 0 0∧v = .int .i64 0∧w=wr) (fun _ _ _=>0)
  case atStart=>exact ⟨rfl,rfl,rfl⟩
  case round =>
   obtain ⟨rfl,rfl,rfl⟩:=hrel
   go_wp2
   go_ret
   rw [HN.out]
   exact ⟨rfl,⟨_,HS.out.1⟩,HS.out.2⟩
 ·have HK:=Lib.hid (fun V (hV:But (fun _=>False) w V) i (hi:i < Ks.length) j (hj:j < 7)=>show V.cell? ⟨g,i * 7+j,none⟩=(kcs Ks[i])[j]? from (h.new hV).kcell hkv hi hj)
  have HC7:=Lib.hid (fun V (hV:But (fun _=>False) w V)=>show V.cell? ⟨rp,7,none⟩=some (.slice (some ⟨g,0,none⟩) Ks.length c) from by rw [← hkv];exact (h.new hV).blk.cell 7)
  obtain ⟨n,hn⟩:∃ n,n=Ks.length:=⟨_,rfl⟩
  have HLN:=Lib.hid hn
  rw [← hn] at HC7 hl
  clear h hkv hn
  go_enter Tryz.func8,Tryz.ntmps8
  go_wp2_with fail
  go_loopw [5,6] (fun u v wr=>∃ (k M:Nat),k≤n∧M≤k∧M=((Ks.take k).filter (stays now)).length∧v = .int .i64 (k:Int)∧wr.ownsRow w.heap.size 72 7 u M (kcl ((Ks.take k).filter (stays now)))∧But (fun _=>False) w wr) (fun _ v _=>n - (intOf v).toNat)
  case atStart=>exact ⟨0,0,Nat.zero_le _,Nat.le_refl _,by simp,rfl,World.ownsRow_nil _ _ _ _,But.refl _ _⟩
  case round =>
   obtain ⟨k,M,hk,hMk,hM,rfl,hown,hbw⟩:=hrel
   have HO:=Lib.hid (And.intro hown (And.intro hbw hM))
   have k7:=HC7.out _ hbw
   clear hM
   by_cases hlt:k < n
   ·have hki:(k:Int) < (n:Int):=by omega
    have hkK:k < Ks.length:=by rw [← HLN.out];exact hlt
    have hcc:=HK.out _ hbw k hkK
    have HFS:=Lib.hid (show (Ks.take (k+1)).filter (stays now)=(Ks.take k).filter (stays now)++(if stays now Ks[k] then [Ks[k]] else []) from by
     rw [List.take_succ_eq_append_getElem hkK,List.filter_append]
     congr 1
     cases hs:stays now Ks[k] <;> simp [List.filter,hs])
    obtain ⟨x,hx⟩:∃ x,x=Ks[k]:=⟨_,rfl⟩
    rw [← hx] at hcc HFS
    have e0:wr.cell? ⟨g,k * 7,none⟩=some (.string x.key):=hcc 0 (by omega)
    have e1:wr.cell? ⟨g,k * 7+1,none⟩=some (.string x.val):=hcc 1 (by omega)
    have e2:wr.cell? ⟨g,k * 7+2,none⟩=some (.int .u64 (x.ver:Int)):=hcc 2 (by omega)
    have e3:wr.cell? ⟨g,k * 7+3,none⟩=some (.int .u64 (x.exp:Int)):=hcc 3 (by omega)
    have e4:wr.cell? ⟨g,k * 7+4,none⟩=some (.int .i64 x.p.1):=hcc 4 (by omega)
    have e5:wr.cell? ⟨g,k * 7+5,none⟩=some (.int .i64 x.p.2.1):=hcc 5 (by omega)
    have e6:wr.cell? ⟨g,k * 7+6,none⟩=some (.int .i64 x.p.2.2):=hcc 6 (by omega)
    obtain ⟨a1,c1,hu,_⟩:=own_form hown
    subst hu
    clear hx hcc hown hbw
    have hst:stays now x=true ↔ (x.exp=0∨now < x.exp):=by unfold stays;simp
    by_cases hs:x.exp=0∨now < x.exp
    ·have HF2:=Lib.hid (show (Ks.take (k+1)).filter (stays now)=(Ks.take k).filter (stays now)++[x] from by rw [HFS.out,if_pos (hst.2 hs)])
     have hq:((x.exp:Int) == 0)=false→(now:Int) < (x.exp:Int):=fun h0=>by
      have:=beq_eq_false_iff_ne.1 h0
      omega
     clear hst
     by_cases h0:x.exp=0
     ·have z0:((x.exp:Int) == 0)=true:=by rw [h0];rfl
      clear hq hs h0
      go_wp2_with (first
       | (at_builtin;refine wpList_append_onto rfl (.tmp 38) (.tmp 46) _ rfl w.heap.size 72 i0 _ 7 72 Tryz.underlying61 hi0 hz0 hz1 hz2 rfl (by omega) (.slice a1 M c1) M _ rfl (ownsRow_but HO.out.1 ((But.refl (fun _=>False) wr).alloc (.cells (kcs x).toArray 72)) (fun _ _ h=>h)) (.slice (some ⟨wr.heap.size,0,none⟩) 1 1) 1 (kcs x) rfl (sees_one wr _ _ _ 7 rfl rfl) (kcs_one x) (by simp only [maxLen];omega) (by omega) (by have:=HO.out.2.1.size;simp;omega) ?_
          intro v4 w4 ho4 hon4
          have hb4:But (fun _=>False) w w4:=(HO.out.2.1.alloc (.cells (kcs x).toArray 72)).trans hon4.but (fun i hi e=>by have:=(HO.out.1.lt i e.symm).1;omega)
          have HO4:=Lib.hid ho4
          have HB4:=Lib.hid hb4
          clear ho4 hon4 hb4 e0 e1 e2 e3 e4 e5 e6 k7 z0))
      go_roundw
      case rel =>
       refine ⟨k+1,M+1,by omega,by omega,?_,by go_num,?_,HB4.out⟩
       ·rw [HF2.out,List.length_append,← HO.out.2.2];rfl
       ·rw [HF2.out,kcl_append]
        have:=HO4.out
        rw [show kcs x=kcl [x] from by simp [kcl]] at this
        exact this
      case measure=>simp [intOf];omega
     ·have z0:((x.exp:Int) == 0)=false:=beq_eq_false_iff_ne.2 (by omega)
      have z1:=hq z0
      clear hq hs h0
      go_wp2_with (first
       | (at_builtin;refine wpList_append_onto rfl (.tmp 38) (.tmp 46) _ rfl w.heap.size 72 i0 _ 7 72 Tryz.underlying61 hi0 hz0 hz1 hz2 rfl (by omega) (.slice a1 M c1) M _ rfl (ownsRow_but HO.out.1 ((But.refl (fun _=>False) wr).alloc (.cells (kcs x).toArray 72)) (fun _ _ h=>h)) (.slice (some ⟨wr.heap.size,0,none⟩) 1 1) 1 (kcs x) rfl (sees_one wr _ _ _ 7 rfl rfl) (kcs_one x) (by simp only [maxLen];omega) (by omega) (by have:=HO.out.2.1.size;simp;omega) ?_
          intro v4 w4 ho4 hon4
          have hb4:But (fun _=>False) w w4:=(HO.out.2.1.alloc (.cells (kcs x).toArray 72)).trans hon4.but (fun i hi e=>by have:=(HO.out.1.lt i e.symm).1;omega)
          have HO4:=Lib.hid ho4
          have HB4:=Lib.hid hb4
          clear ho4 hon4 hb4 e0 e1 e2 e3 e4 e5 e6 k7 z0 z1))
      go_roundw
      case rel =>
       refine ⟨k+1,M+1,by omega,by omega,?_,by go_num,?_,HB4.out⟩
       ·rw [HF2.out,List.length_append,← HO.out.2.2];rfl
       ·rw [HF2.out,kcl_append]
        have:=HO4.out
        rw [show kcs x=kcl [x] from by simp [kcl]] at this
        exact this
      case measure=>simp [intOf];omega
    ·have HF2:=Lib.hid (show (Ks.take (k+1)).filter (stays now)=(Ks.take k).filter (stays now) from by rw [HFS.out,if_neg (fun e=>hs (hst.1 e)),List.append_nil])
     have z0:((x.exp:Int) == 0)=false:=beq_eq_false_iff_ne.2 (by omega)
     have z1:¬ (now:Int) < (x.exp:Int):=by omega
     clear hst hs
     go_wp2_with fail
     go_roundw
     case rel =>
      refine ⟨k+1,M,by omega,by omega,?_,by go_num,?_,HO.out.2.1⟩
      ·rw [HF2.out];exact HO.out.2.2
      ·rw [HF2.out];exact HO.out.1
     case measure=>simp [intOf];omega
   ·have hkn:k=n:=by omega
    subst hkn
    have hT:Ks.take k=Ks:=by rw [HLN.out,List.take_length]
    have hMl:=HO.out.2.2
    rw [hT] at hMl
    obtain ⟨a1,c1,hu,_⟩:=own_form hown
    subst hu
    have HS:=Lib.hid (((HH.out.new hbw)).setk (base:=w.heap.size) (kv' := .slice a1 M c1) (K':=Ks.filter (stays now)) (by rw [← hMl];have:=hown;rw [hT] at this;exact this))
    have HBW:=Lib.hid (And.intro hbw hMl)
    have f7:wr.frozen? ⟨rp,7,none⟩=false:=(HH.out.new hbw).blk.frozen 7
    have w1:IntKind.i64.wrap ((k:Int) - (M:Int))=(k:Int) - (M:Int):=IntWalk.i64_in _ (by omega)
    clear hown hbw hT hMl
    go_wp2_with fail
    go_ret
    exact ⟨by rw [← HLN.out,← HBW.out.2];rfl,⟨_,HS.out.1⟩,(HBW.out.1.mono (fun _ _ h=>h.elim)).trans' HS.out.2⟩
theorem rrights_any (h:RM w rp kv tv B Ks) (hg:Rgt.Good B.toks) (t:Tkn) (ht:OkK t):Calls Tryz.prog 13 #[.pointer (some ⟨rp,0,none⟩),.agg (tkB t)] w fun e w'=>e = .returned (.int .i64 (rightsOf B t))∧But (fun _=>False) w w':=by
 have HX:=Lib.hid (Blk.new w 28 (tkB t))
 have HB0:=Lib.hid ((But.refl (fun _=>False) w).alloc (.cells (tkB t) 28))
 have HH:=Lib.hid h
 have x2:(w.alloc (.cells #[.int .i64 t.bucket,.int .u32 (t.gen:Int),.int .u32 (t.serial:Int),.int .u64 (t.secret:Int)] 28)).cell? ⟨w.heap.size,2,none⟩=some (.int .u32 (t.serial:Int)):=HX.out.cell 2
 have HTK:=Lib.hid (token_any (HH.out.new HB0.out) hg.ris (by have:=hg.len;omega) t.serial)
 have hq:=Rgt.plc_le t.serial B.toks
 have HLK:=Lib.hid (show (Rgt.look t.serial B.toks).isSome=true→∃ h:Rgt.plc t.serial B.toks < B.toks.length,Rgt.look t.serial B.toks=some (B.toks[Rgt.plc t.serial B.toks]) from fun hb=>by
  obtain ⟨h1,h2⟩:=(Rgt.plc_look hg.ris).1 hb
  exact ⟨h1,look_at hg.ris h1 h2⟩)
 have HNO:=Lib.hid (show (Rgt.look t.serial B.toks).isSome=false→rightsOf B t=0 from fun hb=>by
  unfold rightsOf Rgt.has
  cases hl:Rgt.look t.serial B.toks with
  | none=>split <;> rfl
  | some x=>rw [hl] at hb;cases hb)
 obtain ⟨b,hbe⟩:∃ b,b=(Rgt.look t.serial B.toks).isSome:=⟨_,rfl⟩
 obtain ⟨q,hqe⟩:∃ q,q=Rgt.plc t.serial B.toks:=⟨_,rfl⟩
 rw [← hbe] at HTK HLK HNO
 rw [← hqe] at HTK hq
 have HQE:=Lib.hid hqe
 clear h ht hbe hqe hg
 go_enter Tryz.func13,Tryz.ntmps13
 go_wp2_with fail
 change Calls _ _ _ (w.alloc (.cells (tkB t) 28)) _
 clear x2
 obtain ⟨b3,hb3⟩:∃ b,b=w.heap.size:=⟨_,rfl⟩
 rw [← hb3] at HX ⊢
 generalize w.alloc (.cells (tkB t) 28)=W at HX HB0 HTK ⊢
 clear hb3
 refine HTK.out.mono ?_
 rintro e w1 ⟨rfl,hb1⟩
 have HBW:=Lib.hid (HB0.out.trans hb1 (fun _ _ h=>h))
 have HX1:=Lib.hid (HX.out.but hb1 (fun h=>h))
 have HR1:=Lib.hid (HH.out.new HBW.out)
 clear hb1
 have HC:=Lib.hid (fun V (hV:But (fun _=>False) w1 V)=>(And.intro (show V.cell? ⟨rp,0,none⟩=some (.int .i64 B.id) from (HR1.out.new hV).blk.cell 0) (And.intro (show V.cell? ⟨rp,1,none⟩=some (.int .u32 (B.gen:Int)) from (HR1.out.new hV).blk.cell 1) (And.intro (show V.cell? ⟨b3,0,none⟩=some (.int .i64 t.bucket) from (HX1.out.but hV (fun h=>h)).cell 0) (And.intro (show V.cell? ⟨b3,1,none⟩=some (.int .u32 (t.gen:Int)) from (HX1.out.but hV (fun h=>h)).cell 1) (And.intro (show V.cell? ⟨b3,3,none⟩=some (.int .u64 (t.secret:Int)) from (HX1.out.but hV (fun h=>h)).cell 3) (show V.cell? ⟨rp,8,none⟩=some tv from (HR1.out.new hV).blk.cell 8)))))))
 cases b with
 | false =>
  have HRT:=Lib.hid (HNO.out rfl)
  go_wp2_with fail
  refine Late.region_goes (fun V=>But (fun _=>False) w1 V) (fun _=>false) (by kernel_rfl) ?_ (fun hH=>?_)
  ·exact (But.refl _ w1).drew
  refine Late.tk 0 ?_ ?_ hH ?_ (hw:=by kernel_rfl);rotate_left;focus (intro wy hSw;(try dsimp only at hSw);obtain ⟨k0,k1,k3,k4,k5,k6⟩:=HC.out wy hSw;go_simp;try (with_reducible rfl))
  refine Late.tk 1 ?_ ?_ hH ?_ (hw:=by kernel_rfl);rotate_left;focus (intro wy hSw;(try dsimp only at hSw);obtain ⟨k0,k1,k3,k4,k5,k6⟩:=HC.out wy hSw;go_simp;try (with_reducible rfl))
  refine Late.tk 2 ?_ ?_ hH ?_ (hw:=by kernel_rfl);rotate_left;focus (intro wy hSw;(try dsimp only at hSw);obtain ⟨k0,k1,k3,k4,k5,k6⟩:=HC.out wy hSw;go_simp;try (with_reducible rfl))
  try simp only [Act.put,List.setIfInBounds_toArray,List.set_cons_zero,List.set_cons_succ]
  refine Late.tn 3 hH ?_
  try simp only [Act.put,List.setIfInBounds_toArray,List.set_cons_zero,List.set_cons_succ]
  refine Late.tn 4 hH ?_
  try simp only [Act.put,List.setIfInBounds_toArray,List.set_cons_zero,List.set_cons_succ]
  refine Late.tn 5 hH ?_
  try simp only [Act.put,List.setIfInBounds_toArray,List.set_cons_zero,List.set_cons_succ]
  refine Late.tn 6 hH ?_
  try simp only [Act.put,List.setIfInBounds_toArray,List.set_cons_zero,List.set_cons_succ]
  refine Late.tn 7 hH ?_
  try simp only [Act.put,List.setIfInBounds_toArray,List.set_cons_zero,List.set_cons_succ]
  refine Late.tn 8 hH ?_
  try simp only [Act.put,List.setIfInBounds_toArray,List.set_cons_zero,List.set_cons_succ]
  refine Late.tn 9 hH ?_
  try simp only [Act.put,List.setIfInBounds_toArray,List.set_cons_zero,List.set_cons_succ]
  refine Late.tk 10 ?_ ?_ hH ?_ (hw:=by kernel_rfl);rotate_left;focus (intro wy hSw;(try dsimp only at hSw);obtain ⟨k0,k1,k3,k4,k5,k6⟩:=HC.out wy hSw;go_simp;try (with_reducible rfl))
  refine Late.tk 11 ?_ ?_ hH ?_ (hw:=by kernel_rfl);rotate_left;focus (intro wy hSw;(try dsimp only at hSw);obtain ⟨k0,k1,k3,k4,k5,k6⟩:=HC.out wy hSw;go_simp;try (with_reducible rfl))
  try simp only [Act.put,List.setIfInBounds_toArray,List.set_cons_zero,List.set_cons_succ]
  refine Late.tn 12 hH ?_
  try simp only [Act.put,List.setIfInBounds_toArray,List.set_cons_zero,List.set_cons_succ]
  refine Late.tn 13 hH ?_
  try simp only [Act.put,List.setIfInBounds_toArray,List.set_cons_zero,List.set_cons_succ]
  refine Late.tn 14 hH ?_
  try simp only [Act.put,List.setIfInBounds_toArray,List.set_cons_zero,List.set_cons_succ]
  refine Late.tn 15 hH ?_
  try simp only [Act.put,List.setIfInBounds_toArray,List.set_cons_zero,List.set_cons_succ]
  refine Late.tn 16 hH ?_
  try simp only [Act.put,List.setIfInBounds_toArray,List.set_cons_zero,List.set_cons_succ]
  refine Late.tn 17 hH ?_
  try simp only [Act.put,List.setIfInBounds_toArray,List.set_cons_zero,List.set_cons_succ]
  refine Late.tn 18 hH ?_
  try simp only [Act.put,List.setIfInBounds_toArray,List.set_cons_zero,List.set_cons_succ]
  refine Late.tk 19 ?_ ?_ hH ?_ (hw:=by kernel_rfl);rotate_left;focus (intro wy hSw;(try dsimp only at hSw);obtain ⟨k0,k1,k3,k4,k5,k6⟩:=HC.out wy hSw;go_simp;try (with_reducible rfl))
  try simp only [Act.put,List.setIfInBounds_toArray,List.set_cons_zero,List.set_cons_succ]
  refine Late.Goes.done (by kernel_rfl) ?_ _
  have HV:=Lib.hid hH
  clear hH
  go_wp2_with fail
  go_ret
  exact ⟨by rw [HRT.out];rfl,HBW.out.trans HV.out (fun _ _ h=>h)⟩
 | true =>
  obtain ⟨hqn,hlook⟩:=HLK.out rfl
  have HLO:=Lib.hid hlook
  by_cases h1:t.bucket=B.id
  ·have n1:(t.bucket != B.id)=false:=by simpa using h1
   by_cases h2:t.gen=B.gen
   ·have n2:((t.gen:Int) != (B.gen:Int))=false:=by rw [h2];simp
    have HRH:=Lib.hid (show rightsOf B t=Rgt.has t.serial t.secret B.toks from if_pos ⟨h1,h2⟩)
    clear h1 h2 hlook
    go_wp2_with fail
    refine Late.region_goes (fun V=>But (fun _=>False) w1 V) (fun _=>false) (by kernel_rfl) ?_ (fun hH=>?_)
    ·exact (But.refl _ w1).drew
    refine Late.tk 0 ?_ ?_ hH ?_ (hw:=by kernel_rfl);rotate_left;focus (intro wy hSw;(try dsimp only at hSw);obtain ⟨k0,k1,k3,k4,k5,k6⟩:=HC.out wy hSw;go_simp;try (with_reducible rfl))
    refine Late.tk 1 ?_ ?_ hH ?_ (hw:=by kernel_rfl);rotate_left;focus (intro wy hSw;(try dsimp only at hSw);obtain ⟨k0,k1,k3,k4,k5,k6⟩:=HC.out wy hSw;go_simp;try (with_reducible rfl))
    refine Late.tk 2 ?_ ?_ hH ?_ (hw:=by kernel_rfl);rotate_left;focus (intro wy hSw;(try dsimp only at hSw);obtain ⟨k0,k1,k3,k4,k5,k6⟩:=HC.out wy hSw;go_simp;try (with_reducible rfl))
    refine Late.tk 3 ?_ ?_ hH ?_ (hw:=by kernel_rfl);rotate_left;focus (intro wy hSw;(try dsimp only at hSw);obtain ⟨k0,k1,k3,k4,k5,k6⟩:=HC.out wy hSw;go_simp;try (with_reducible rfl))
    refine Late.tk 4 ?_ ?_ hH ?_ (hw:=by kernel_rfl);rotate_left;focus (intro wy hSw;(try dsimp only at hSw);obtain ⟨k0,k1,k3,k4,k5,k6⟩:=HC.out wy hSw;go_simp;try (with_reducible rfl))
    refine Late.tk 5 ?_ ?_ hH ?_ (hw:=by kernel_rfl);rotate_left;focus (intro wy hSw;(try dsimp only at hSw);obtain ⟨k0,k1,k3,k4,k5,k6⟩:=HC.out wy hSw;go_simp;try (with_reducible rfl))
    refine Late.tk 6 ?_ ?_ hH ?_ (hw:=by kernel_rfl);rotate_left;focus (intro wy hSw;(try dsimp only at hSw);obtain ⟨k0,k1,k3,k4,k5,k6⟩:=HC.out wy hSw;go_simp;try (with_reducible rfl))
    refine Late.tk 7 ?_ ?_ hH ?_ (hw:=by kernel_rfl);rotate_left;focus (intro wy hSw;(try dsimp only at hSw);obtain ⟨k0,k1,k3,k4,k5,k6⟩:=HC.out wy hSw;go_simp;try (with_reducible rfl))
    refine Late.tk 8 ?_ ?_ hH ?_ (hw:=by kernel_rfl);rotate_left;focus (intro wy hSw;(try dsimp only at hSw);obtain ⟨k0,k1,k3,k4,k5,k6⟩:=HC.out wy hSw;go_simp;try (with_reducible rfl))
    refine Late.tk 9 ?_ ?_ hH ?_ (hw:=by kernel_rfl);rotate_left;focus (intro wy hSw;(try dsimp only at hSw);obtain ⟨k0,k1,k3,k4,k5,k6⟩:=HC.out wy hSw;go_simp;try (with_reducible rfl))
    refine Late.tk 10 ?_ ?_ hH ?_ (hw:=by kernel_rfl);rotate_left;focus (intro wy hSw;(try dsimp only at hSw);obtain ⟨k0,k1,k3,k4,k5,k6⟩:=HC.out wy hSw;go_simp;try (with_reducible rfl))
    refine Late.tk 11 ?_ ?_ hH ?_ (hw:=by kernel_rfl);rotate_left;focus (intro wy hSw;(try dsimp only at hSw);obtain ⟨k0,k1,k3,k4,k5,k6⟩:=HC.out wy hSw;go_simp;try (with_reducible rfl))
    refine Late.tk 12 ?_ ?_ hH ?_ (hw:=by kernel_rfl);rotate_left;focus (intro wy hSw;(try dsimp only at hSw);obtain ⟨k0,k1,k3,k4,k5,k6⟩:=HC.out wy hSw;go_simp;try (with_reducible rfl))
    refine Late.tk 13 ?_ ?_ hH ?_ (hw:=by kernel_rfl);rotate_left;focus (intro wy hSw;(try dsimp only at hSw);obtain ⟨k0,k1,k3,k4,k5,k6⟩:=HC.out wy hSw;go_simp;try (with_reducible rfl))
    refine Late.tk 14 ?_ ?_ hH ?_ (hw:=by kernel_rfl);rotate_left;focus (intro wy hSw;(try dsimp only at hSw);obtain ⟨k0,k1,k3,k4,k5,k6⟩:=HC.out wy hSw;go_simp;try (with_reducible rfl))
    refine Late.tk 15 ?_ ?_ hH ?_ (hw:=by kernel_rfl);rotate_left;focus (intro wy hSw;(try dsimp only at hSw);obtain ⟨k0,k1,k3,k4,k5,k6⟩:=HC.out wy hSw;go_simp;try (with_reducible rfl))
    refine Late.tk 16 ?_ ?_ hH ?_ (hw:=by kernel_rfl);rotate_left;focus (intro wy hSw;(try dsimp only at hSw);obtain ⟨k0,k1,k3,k4,k5,k6⟩:=HC.out wy hSw;go_simp;try (with_reducible rfl))
    refine Late.tk 17 ?_ ?_ hH ?_ (hw:=by kernel_rfl);rotate_left;focus (intro wy hSw;(try dsimp only at hSw);obtain ⟨k0,k1,k3,k4,k5,k6⟩:=HC.out wy hSw;go_simp;try (with_reducible rfl))
    refine Late.tk 18 ?_ ?_ hH ?_ (hw:=by kernel_rfl);rotate_left;focus (intro wy hSw;(try dsimp only at hSw);obtain ⟨k0,k1,k3,k4,k5,k6⟩:=HC.out wy hSw;go_simp;try (with_reducible rfl))
    refine Late.tk 19 ?_ ?_ hH ?_ (hw:=by kernel_rfl);rotate_left;focus (intro wy hSw;(try dsimp only at hSw);obtain ⟨k0,k1,k3,k4,k5,k6⟩:=HC.out wy hSw;go_simp;try (with_reducible rfl))
    try simp only [Act.put,List.setIfInBounds_toArray,List.set_cons_zero,List.set_cons_succ]
    refine Late.Goes.done (by kernel_rfl) ?_ _
    have HV2:=Lib.hid hH
    clear hH n1 n2
    rcases HR1.out.tform with ⟨hnil,_⟩|⟨g,c,htv⟩
    ·rw [hnil] at hqn
     exact absurd hqn (Nat.not_lt_zero _)
    have HCX:=Lib.hid (show ∀ V,But (fun _=>False) w1 V→V.cell? ⟨g,q * 14+9,none⟩=some (.int .u64 ((B.toks[Rgt.plc t.serial B.toks]).k:Int))∧V.cell? ⟨g,q * 14+8,none⟩=some (.int .i64 ((B.toks[Rgt.plc t.serial B.toks]).r)) from fun V hV=>by
     rw [HQE.out]
     exact ⟨(HR1.out.new hV).tcell htv hqn (j:=9) (by omega),(HR1.out.new hV).tcell htv hqn (j:=8) (by omega)⟩)
    have HHS:=Lib.hid (show rightsOf B t=if (B.toks[Rgt.plc t.serial B.toks]).k=t.secret then (B.toks[Rgt.plc t.serial B.toks]).r else 0 from by
     rw [HRH.out];unfold Rgt.has;rw [HLO.out])
    obtain ⟨xk,hxk⟩:∃ z,z=(B.toks[Rgt.plc t.serial B.toks]).k:=⟨_,rfl⟩
    obtain ⟨xr,hxr⟩:∃ z,z=(B.toks[Rgt.plc t.serial B.toks]).r:=⟨_,rfl⟩
    rw [← hxk,← hxr] at HHS HCX
    clear hxk hxr
    have hqi:(q:Int) < (B.toks.length:Int):=by rw [HQE.out];omega
    obtain ⟨n,hn⟩:∃ n,n=B.toks.length:=⟨_,rfl⟩
    rw [← hn] at htv hqi hq
    subst htv
    clear HLO hqn hn
    by_cases hk:xk=t.secret
    ·have n3:((xk:Int) != (t.secret:Int))=false:=by rw [hk];simp
     have HRT:=Lib.hid (show rightsOf B t=xr from by rw [HHS.out,if_pos hk])
     clear hk
     go_wp2_with fail
     refine Late.region_goes (fun V=>But (fun _=>False) w1 V) (fun _=>false) (by kernel_rfl) ?_ (fun hH=>?_)
     ·exact HV2.out.drew
     refine Late.tk 0 ?_ ?_ hH ?_;rotate_left 2
     refine Late.tk 1 ?_ ?_ hH ?_;rotate_left 2
     refine Late.tk 2 ?_ ?_ hH ?_;rotate_left 2
     refine Late.tk 3 ?_ ?_ hH ?_;rotate_left 2
     refine Late.tk 4 ?_ ?_ hH ?_;rotate_left 2
     refine Late.tk 5 ?_ ?_ hH ?_;rotate_left 2
     refine Late.tk 6 ?_ ?_ hH ?_;rotate_left 2
     refine Late.tk 7 ?_ ?_ hH ?_;rotate_left 2
     refine Late.tk 8 ?_ ?_ hH ?_;rotate_left 2
     refine Late.tk 9 ?_ ?_ hH ?_;rotate_left 2
     refine Late.tk 10 ?_ ?_ hH ?_;rotate_left 2
     rotate_left
     any_goals (intro wy hSw;(try dsimp only at hSw);obtain ⟨k0,k1,k3,k4,k5,k6⟩:=HC.out wy hSw;obtain ⟨c9,c8⟩:=HCX.out wy hSw;go_simp;try (with_reducible rfl))
     try simp only [Act.put,List.setIfInBounds_toArray,List.set_cons_zero,List.set_cons_succ]
     refine Late.Goes.done (by kernel_rfl) ?_ _
     have HV4:=Lib.hid hH
     clear hH n3
     obtain ⟨c9,c8⟩:=HCX.out _ HV4.out
     obtain ⟨-,-,-,-,-,k6⟩:=HC.out _ HV4.out
     go_wp2_with fail
     go_ret
     exact ⟨by rw [HRT.out];rfl,HBW.out.trans HV4.out (fun _ _ h=>h)⟩
    ·have n3:((xk:Int) != (t.secret:Int))=true:=by simp;omega
     have HRT:=Lib.hid (show rightsOf B t=0 from by rw [HHS.out,if_neg hk])
     clear hk
     go_wp2_with fail
     refine Late.region_goes (fun V=>But (fun _=>False) w1 V) (fun _=>false) (by kernel_rfl) ?_ (fun hH=>?_)
     ·exact HV2.out.drew
     refine Late.tk 0 ?_ ?_ hH ?_;rotate_left 2
     refine Late.tk 1 ?_ ?_ hH ?_;rotate_left 2
     refine Late.tk 2 ?_ ?_ hH ?_;rotate_left 2
     refine Late.tk 3 ?_ ?_ hH ?_;rotate_left 2
     refine Late.tk 4 ?_ ?_ hH ?_;rotate_left 2
     refine Late.tk 5 ?_ ?_ hH ?_;rotate_left 2
     refine Late.tk 6 ?_ ?_ hH ?_;rotate_left 2
     refine Late.tk 7 ?_ ?_ hH ?_;rotate_left 2
     refine Late.tk 8 ?_ ?_ hH ?_;rotate_left 2
     refine Late.tk 9 ?_ ?_ hH ?_;rotate_left 2
     refine Late.tk 10 ?_ ?_ hH ?_;rotate_left 2
     rotate_left
     any_goals (intro wy hSw;(try dsimp only at hSw);obtain ⟨k0,k1,k3,k4,k5,k6⟩:=HC.out wy hSw;obtain ⟨c9,c8⟩:=HCX.out wy hSw;go_simp;try (with_reducible rfl))
     try simp only [Act.put,List.setIfInBounds_toArray,List.set_cons_zero,List.set_cons_succ]
     refine Late.Goes.done (by kernel_rfl) ?_ _
     have HV:=Lib.hid hH
     clear hH
     go_wp2_with fail
     go_ret
     exact ⟨by rw [HRT.out];rfl,HBW.out.trans HV.out (fun _ _ h=>h)⟩
   ·have n2:((t.gen:Int) != (B.gen:Int))=true:=by simp;omega
    have HRT:=Lib.hid (show rightsOf B t=0 from if_neg (fun h=>h2 h.2))
    clear h1 h2 hlook
    go_wp2_with fail
    refine Late.region_goes (fun V=>But (fun _=>False) w1 V) (fun _=>false) (by kernel_rfl) ?_ (fun hH=>?_)
    ·exact (But.refl _ w1).drew
    refine Late.tk 0 ?_ ?_ hH ?_ (hw:=by kernel_rfl);rotate_left;focus (intro wy hSw;(try dsimp only at hSw);obtain ⟨k0,k1,k3,k4,k5,k6⟩:=HC.out wy hSw;go_simp;try (with_reducible rfl))
    refine Late.tk 1 ?_ ?_ hH ?_ (hw:=by kernel_rfl);rotate_left;focus (intro wy hSw;(try dsimp only at hSw);obtain ⟨k0,k1,k3,k4,k5,k6⟩:=HC.out wy hSw;go_simp;try (with_reducible rfl))
    refine Late.tk 2 ?_ ?_ hH ?_ (hw:=by kernel_rfl);rotate_left;focus (intro wy hSw;(try dsimp only at hSw);obtain ⟨k0,k1,k3,k4,k5,k6⟩:=HC.out wy hSw;go_simp;try (with_reducible rfl))
    refine Late.tk 3 ?_ ?_ hH ?_ (hw:=by kernel_rfl);rotate_left;focus (intro wy hSw;(try dsimp only at hSw);obtain ⟨k0,k1,k3,k4,k5,k6⟩:=HC.out wy hSw;go_simp;try (with_reducible rfl))
    refine Late.tk 4 ?_ ?_ hH ?_ (hw:=by kernel_rfl);rotate_left;focus (intro wy hSw;(try dsimp only at hSw);obtain ⟨k0,k1,k3,k4,k5,k6⟩:=HC.out wy hSw;go_simp;try (with_reducible rfl))
    refine Late.tk 5 ?_ ?_ hH ?_ (hw:=by kernel_rfl);rotate_left;focus (intro wy hSw;(try dsimp only at hSw);obtain ⟨k0,k1,k3,k4,k5,k6⟩:=HC.out wy hSw;go_simp;try (with_reducible rfl))
    refine Late.tk 6 ?_ ?_ hH ?_ (hw:=by kernel_rfl);rotate_left;focus (intro wy hSw;(try dsimp only at hSw);obtain ⟨k0,k1,k3,k4,k5,k6⟩:=HC.out wy hSw;go_simp;try (with_reducible rfl))
    refine Late.tk 7 ?_ ?_ hH ?_ (hw:=by kernel_rfl);rotate_left;focus (intro wy hSw;(try dsimp only at hSw);obtain ⟨k0,k1,k3,k4,k5,k6⟩:=HC.out wy hSw;go_simp;try (with_reducible rfl))
    refine Late.tk 8 ?_ ?_ hH ?_ (hw:=by kernel_rfl);rotate_left;focus (intro wy hSw;(try dsimp only at hSw);obtain ⟨k0,k1,k3,k4,k5,k6⟩:=HC.out wy hSw;go_simp;try (with_reducible rfl))
    refine Late.tk 9 ?_ ?_ hH ?_ (hw:=by kernel_rfl);rotate_left;focus (intro wy hSw;(try dsimp only at hSw);obtain ⟨k0,k1,k3,k4,k5,k6⟩:=HC.out wy hSw;go_simp;try (with_reducible rfl))
    refine Late.tk 10 ?_ ?_ hH ?_ (hw:=by kernel_rfl);rotate_left;focus (intro wy hSw;(try dsimp only at hSw);obtain ⟨k0,k1,k3,k4,k5,k6⟩:=HC.out wy hSw;go_simp;try (with_reducible rfl))
    refine Late.tk 11 ?_ ?_ hH ?_ (hw:=by kernel_rfl);rotate_left;focus (intro wy hSw;(try dsimp only at hSw);obtain ⟨k0,k1,k3,k4,k5,k6⟩:=HC.out wy hSw;go_simp;try (with_reducible rfl))
    refine Late.tk 12 ?_ ?_ hH ?_ (hw:=by kernel_rfl);rotate_left;focus (intro wy hSw;(try dsimp only at hSw);obtain ⟨k0,k1,k3,k4,k5,k6⟩:=HC.out wy hSw;go_simp;try (with_reducible rfl))
    refine Late.tk 13 ?_ ?_ hH ?_ (hw:=by kernel_rfl);rotate_left;focus (intro wy hSw;(try dsimp only at hSw);obtain ⟨k0,k1,k3,k4,k5,k6⟩:=HC.out wy hSw;go_simp;try (with_reducible rfl))
    refine Late.tk 14 ?_ ?_ hH ?_ (hw:=by kernel_rfl);rotate_left;focus (intro wy hSw;(try dsimp only at hSw);obtain ⟨k0,k1,k3,k4,k5,k6⟩:=HC.out wy hSw;go_simp;try (with_reducible rfl))
    refine Late.tk 15 ?_ ?_ hH ?_ (hw:=by kernel_rfl);rotate_left;focus (intro wy hSw;(try dsimp only at hSw);obtain ⟨k0,k1,k3,k4,k5,k6⟩:=HC.out wy hSw;go_simp;try (with_reducible rfl))
    refine Late.tk 16 ?_ ?_ hH ?_ (hw:=by kernel_rfl);rotate_left;focus (intro wy hSw;(try dsimp only at hSw);obtain ⟨k0,k1,k3,k4,k5,k6⟩:=HC.out wy hSw;go_simp;try (with_reducible rfl))
    refine Late.tk 17 ?_ ?_ hH ?_ (hw:=by kernel_rfl);rotate_left;focus (intro wy hSw;(try dsimp only at hSw);obtain ⟨k0,k1,k3,k4,k5,k6⟩:=HC.out wy hSw;go_simp;try (with_reducible rfl))
    refine Late.tk 18 ?_ ?_ hH ?_ (hw:=by kernel_rfl);rotate_left;focus (intro wy hSw;(try dsimp only at hSw);obtain ⟨k0,k1,k3,k4,k5,k6⟩:=HC.out wy hSw;go_simp;try (with_reducible rfl))
    refine Late.tk 19 ?_ ?_ hH ?_ (hw:=by kernel_rfl);rotate_left;focus (intro wy hSw;(try dsimp only at hSw);obtain ⟨k0,k1,k3,k4,k5,k6⟩:=HC.out wy hSw;go_simp;try (with_reducible rfl))
    try simp only [Act.put,List.setIfInBounds_toArray,List.set_cons_zero,List.set_cons_succ]
    refine Late.Goes.done (by kernel_rfl) ?_ _
    have HV:=Lib.hid hH
    clear hH
    go_wp2_with fail
    go_ret
    exact ⟨by rw [HRT.out];rfl,HBW.out.trans HV.out (fun _ _ h=>h)⟩
  ·have n1:(t.bucket != B.id)=true:=by simpa using h1
   have HRT:=Lib.hid (show rightsOf B t=0 from if_neg (fun h=>h1 h.1))
   clear h1 hlook
   go_wp2_with fail
   refine Late.region_goes (fun V=>But (fun _=>False) w1 V) (fun _=>false) (by kernel_rfl) ?_ (fun hH=>?_)
   ·exact (But.refl _ w1).drew
   refine Late.tk 0 ?_ ?_ hH ?_ (hw:=by kernel_rfl);rotate_left;focus (intro wy hSw;(try dsimp only at hSw);obtain ⟨k0,k1,k3,k4,k5,k6⟩:=HC.out wy hSw;go_simp;try (with_reducible rfl))
   refine Late.tk 1 ?_ ?_ hH ?_ (hw:=by kernel_rfl);rotate_left;focus (intro wy hSw;(try dsimp only at hSw);obtain ⟨k0,k1,k3,k4,k5,k6⟩:=HC.out wy hSw;go_simp;try (with_reducible rfl))
   refine Late.tk 2 ?_ ?_ hH ?_ (hw:=by kernel_rfl);rotate_left;focus (intro wy hSw;(try dsimp only at hSw);obtain ⟨k0,k1,k3,k4,k5,k6⟩:=HC.out wy hSw;go_simp;try (with_reducible rfl))
   refine Late.tk 3 ?_ ?_ hH ?_ (hw:=by kernel_rfl);rotate_left;focus (intro wy hSw;(try dsimp only at hSw);obtain ⟨k0,k1,k3,k4,k5,k6⟩:=HC.out wy hSw;go_simp;try (with_reducible rfl))
   refine Late.tk 4 ?_ ?_ hH ?_ (hw:=by kernel_rfl);rotate_left;focus (intro wy hSw;(try dsimp only at hSw);obtain ⟨k0,k1,k3,k4,k5,k6⟩:=HC.out wy hSw;go_simp;try (with_reducible rfl))
   refine Late.tk 5 ?_ ?_ hH ?_ (hw:=by kernel_rfl);rotate_left;focus (intro wy hSw;(try dsimp only at hSw);obtain ⟨k0,k1,k3,k4,k5,k6⟩:=HC.out wy hSw;go_simp;try (with_reducible rfl))
   refine Late.tk 6 ?_ ?_ hH ?_ (hw:=by kernel_rfl);rotate_left;focus (intro wy hSw;(try dsimp only at hSw);obtain ⟨k0,k1,k3,k4,k5,k6⟩:=HC.out wy hSw;go_simp;try (with_reducible rfl))
   refine Late.tk 7 ?_ ?_ hH ?_ (hw:=by kernel_rfl);rotate_left;focus (intro wy hSw;(try dsimp only at hSw);obtain ⟨k0,k1,k3,k4,k5,k6⟩:=HC.out wy hSw;go_simp;try (with_reducible rfl))
   refine Late.tk 8 ?_ ?_ hH ?_ (hw:=by kernel_rfl);rotate_left;focus (intro wy hSw;(try dsimp only at hSw);obtain ⟨k0,k1,k3,k4,k5,k6⟩:=HC.out wy hSw;go_simp;try (with_reducible rfl))
   refine Late.tk 9 ?_ ?_ hH ?_ (hw:=by kernel_rfl);rotate_left;focus (intro wy hSw;(try dsimp only at hSw);obtain ⟨k0,k1,k3,k4,k5,k6⟩:=HC.out wy hSw;go_simp;try (with_reducible rfl))
   refine Late.tk 10 ?_ ?_ hH ?_ (hw:=by kernel_rfl);rotate_left;focus (intro wy hSw;(try dsimp only at hSw);obtain ⟨k0,k1,k3,k4,k5,k6⟩:=HC.out wy hSw;go_simp;try (with_reducible rfl))
   refine Late.tk 11 ?_ ?_ hH ?_ (hw:=by kernel_rfl);rotate_left;focus (intro wy hSw;(try dsimp only at hSw);obtain ⟨k0,k1,k3,k4,k5,k6⟩:=HC.out wy hSw;go_simp;try (with_reducible rfl))
   try simp only [Act.put,List.setIfInBounds_toArray,List.set_cons_zero,List.set_cons_succ]
   refine Late.tn 12 hH ?_
   try simp only [Act.put,List.setIfInBounds_toArray,List.set_cons_zero,List.set_cons_succ]
   refine Late.tn 13 hH ?_
   try simp only [Act.put,List.setIfInBounds_toArray,List.set_cons_zero,List.set_cons_succ]
   refine Late.tn 14 hH ?_
   try simp only [Act.put,List.setIfInBounds_toArray,List.set_cons_zero,List.set_cons_succ]
   refine Late.tn 15 hH ?_
   try simp only [Act.put,List.setIfInBounds_toArray,List.set_cons_zero,List.set_cons_succ]
   refine Late.tn 16 hH ?_
   try simp only [Act.put,List.setIfInBounds_toArray,List.set_cons_zero,List.set_cons_succ]
   refine Late.tn 17 hH ?_
   try simp only [Act.put,List.setIfInBounds_toArray,List.set_cons_zero,List.set_cons_succ]
   refine Late.tn 18 hH ?_
   try simp only [Act.put,List.setIfInBounds_toArray,List.set_cons_zero,List.set_cons_succ]
   refine Late.tk 19 ?_ ?_ hH ?_ (hw:=by kernel_rfl);rotate_left;focus (intro wy hSw;(try dsimp only at hSw);obtain ⟨k0,k1,k3,k4,k5,k6⟩:=HC.out wy hSw;go_simp;try (with_reducible rfl))
   try simp only [Act.put,List.setIfInBounds_toArray,List.set_cons_zero,List.set_cons_succ]
   refine Late.Goes.done (by kernel_rfl) ?_ _
   have HV:=Lib.hid hH
   clear hH
   go_wp2_with fail
   go_ret
   exact ⟨by rw [HRT.out];rfl,HBW.out.trans HV.out (fun _ _ h=>h)⟩
theorem puts_any (h:RM w rp kv tv B Ks) (hl:Ks.length≤1000):Calls Tryz.prog 50 #[.pointer (some ⟨rp,0,none⟩)] w fun e w'=>∃ v,e = .returned v∧w'.ownsRow w.heap.size 35 14 v Ks.length (rcl (Ks.map (putK B)))∧But (fun _=>False) w w':=by
 obtain ⟨i0,hi0,hz⟩:=Option.map_eq_some_iff.1 rzero
 simp only [Prod.mk.injEq] at hz
 obtain ⟨hz0,hz1,hz2⟩:=hz
 have HH:=Lib.hid h
 rcases h.kform with ⟨hnil,a,c,hkv⟩|⟨g,c,hkv⟩
 ·have k7:w.cell? ⟨rp,7,none⟩=some (.slice a 0 c):=by rw [← hkv];exact h.blk.cell 7
  have HN:=Lib.hid hnil
  clear h hkv hnil hl hz0 hz1 hz2 hi0
  go_enter Tryz.func50,Tryz.ntmps50
  go_wp2_with fail
  go_loopw [3,4] (fun u v wr=>u = .slice none 0 0∧v = .int .i64 0∧w=wr) (fun _ _ _=>0)
  case atStart=>exact ⟨rfl,rfl,rfl⟩
  case round =>
   obtain ⟨rfl,rfl,rfl⟩:=hrel
   go_wp2
   go_ret
   rw [HN.out]
   exact ⟨_,rfl,World.ownsRow_nil _ _ _ _,But.refl _ _⟩
 ·have HK:=Lib.hid (fun V (hV:But (fun _=>False) w V) i (hi:i < Ks.length) j (hj:j < 7)=>show V.cell? ⟨g,i * 7+j,none⟩=(kcs Ks[i])[j]? from (h.new hV).kcell hkv hi hj)
  have HC7:=Lib.hid (fun V (hV:But (fun _=>False) w V)=>(And.intro (show V.cell? ⟨rp,7,none⟩=some (.slice (some ⟨g,0,none⟩) Ks.length c) from by rw [← hkv];exact (h.new hV).blk.cell 7) (And.intro (show V.cell? ⟨rp,0,none⟩=some (.int .i64 B.id) from (h.new hV).blk.cell 0) (show V.cell? ⟨rp,1,none⟩=some (.int .u32 (B.gen:Int)) from (h.new hV).blk.cell 1))))
  obtain ⟨n,hn⟩:∃ n,n=Ks.length:=⟨_,rfl⟩
  have HLN:=Lib.hid hn
  rw [← hn] at HC7 hl ⊢
  clear h hkv hn
  go_enter Tryz.func50,Tryz.ntmps50
  go_wp2_with fail
  go_loopw [3,4] (fun u v wr=>∃ k:Nat,k≤n∧v = .int .i64 (k:Int)∧wr.ownsRow w.heap.size 35 14 u k (rcl ((Ks.take k).map (putK B)))∧But (fun _=>False) w wr) (fun _ v _=>n - (intOf v).toNat)
  case atStart=>exact ⟨0,Nat.zero_le _,rfl,World.ownsRow_nil _ _ _ _,But.refl _ _⟩
  case round =>
   obtain ⟨k,hk,rfl,hown,hbw⟩:=hrel
   have HO:=Lib.hid (And.intro hown hbw)
   have k7:=(HC7.out _ hbw).1
   obtain ⟨a1,c1,hu,_⟩:=own_form hown
   subst hu
   by_cases hlt:k < n
   ·have hki:(k:Int) < (n:Int):=by omega
    have hkK:k < Ks.length:=by rw [← HLN.out];exact hlt
    have hcc:=HK.out _ hbw k hkK
    have HFS:=Lib.hid (show (Ks.take (k+1)).map (putK B)=(Ks.take k).map (putK B)++[putK B Ks[k]] from by rw [List.take_succ_eq_append_getElem hkK,List.map_append];rfl)
    obtain ⟨x,hx⟩:∃ x,x=Ks[k]:=⟨_,rfl⟩
    rw [← hx] at hcc HFS
    have e0:wr.cell? ⟨g,k * 7,none⟩=some (.string x.key):=hcc 0 (by omega)
    have e1:wr.cell? ⟨g,k * 7+1,none⟩=some (.string x.val):=hcc 1 (by omega)
    have e2:wr.cell? ⟨g,k * 7+2,none⟩=some (.int .u64 (x.ver:Int)):=hcc 2 (by omega)
    have e3:wr.cell? ⟨g,k * 7+3,none⟩=some (.int .u64 (x.exp:Int)):=hcc 3 (by omega)
    have e4:wr.cell? ⟨g,k * 7+4,none⟩=some (.int .i64 x.p.1):=hcc 4 (by omega)
    have e5:wr.cell? ⟨g,k * 7+5,none⟩=some (.int .i64 x.p.2.1):=hcc 5 (by omega)
    have e6:wr.cell? ⟨g,k * 7+6,none⟩=some (.int .i64 x.p.2.2):=hcc 6 (by omega)
    have HX:=Lib.hid (Blk.new wr 72 (kcs x).toArray)
    have HBA:=Lib.hid ((But.refl (fun _=>False) wr).alloc (.cells (kcs x).toArray 72))
    clear hx hcc hown hbw
    go_wp2_with fail
    change Code.wp _ _ _ _ (wr.alloc (.cells (kcs x).toArray 72))
    obtain ⟨b5,hb5⟩:∃ b,b=wr.heap.size:=⟨_,rfl⟩
    rw [← hb5] at HX ⊢
    generalize wr.alloc (.cells (kcs x).toArray 72)=W at HX HBA ⊢
    clear hb5 e0 e1 e2 e3 e4 e5 e6 k7
    have HBW:=Lib.hid (HO.out.2.trans HBA.out (fun _ _ h=>h))
    have HCC:=Lib.hid (fun V (hV:But (fun _=>False) W V)=>(And.intro (HC7.out V (HBW.out.trans hV (fun _ _ h=>h))).2.1 (And.intro (HC7.out V (HBW.out.trans hV (fun _ _ h=>h))).2.2 (And.intro (show V.cell? ⟨b5,0,none⟩=some (.string x.key) from (HX.out.but hV (fun h=>h)).cell 0) (And.intro (show V.cell? ⟨b5,1,none⟩=some (.string x.val) from (HX.out.but hV (fun h=>h)).cell 1) (And.intro (show V.cell? ⟨b5,2,none⟩=some (.int .u64 (x.ver:Int)) from (HX.out.but hV (fun h=>h)).cell 2) (show V.cell? ⟨b5,3,none⟩=some (.int .u64 (x.exp:Int)) from (HX.out.but hV (fun h=>h)).cell 3)))))))
    refine Late.region_goes (fun V=>But (fun _=>False) W V) (fun j=>Nat.ble 19 j) (by kernel_rfl) ?_ (fun hH=>?_)
    ·exact (But.refl _ W).drew
    refine Late.tk 0 ?_ ?_ hH ?_ (hw:=by kernel_rfl);rotate_left;focus (intro wy hSw;(try dsimp only at hSw);obtain ⟨k0,k1,k2,k3,k4,k5⟩:=HCC.out wy hSw;go_simp;try (with_reducible rfl))
    refine Late.tk 1 ?_ ?_ hH ?_ (hw:=by kernel_rfl);rotate_left;focus (intro wy hSw;(try dsimp only at hSw);obtain ⟨k0,k1,k2,k3,k4,k5⟩:=HCC.out wy hSw;go_simp;try (with_reducible rfl))
    refine Late.tk 2 ?_ ?_ hH ?_ (hw:=by kernel_rfl);rotate_left;focus (intro wy hSw;(try dsimp only at hSw);obtain ⟨k0,k1,k2,k3,k4,k5⟩:=HCC.out wy hSw;go_simp;try (with_reducible rfl))
    refine Late.tk 3 ?_ ?_ hH ?_ (hw:=by kernel_rfl);rotate_left;focus (intro wy hSw;(try dsimp only at hSw);obtain ⟨k0,k1,k2,k3,k4,k5⟩:=HCC.out wy hSw;go_simp;try (with_reducible rfl))
    refine Late.tk 4 ?_ ?_ hH ?_ (hw:=by kernel_rfl);rotate_left;focus (intro wy hSw;(try dsimp only at hSw);obtain ⟨k0,k1,k2,k3,k4,k5⟩:=HCC.out wy hSw;go_simp;try (with_reducible rfl))
    refine Late.tk 5 ?_ ?_ hH ?_ (hw:=by kernel_rfl);rotate_left;focus (intro wy hSw;(try dsimp only at hSw);obtain ⟨k0,k1,k2,k3,k4,k5⟩:=HCC.out wy hSw;go_simp;try (with_reducible rfl))
    refine Late.tk 6 ?_ ?_ hH ?_ (hw:=by kernel_rfl);rotate_left;focus (intro wy hSw;(try dsimp only at hSw);obtain ⟨k0,k1,k2,k3,k4,k5⟩:=HCC.out wy hSw;go_simp;try (with_reducible rfl))
    refine Late.tk 7 ?_ ?_ hH ?_ (hw:=by kernel_rfl);rotate_left;focus (intro wy hSw;(try dsimp only at hSw);obtain ⟨k0,k1,k2,k3,k4,k5⟩:=HCC.out wy hSw;go_simp;try (with_reducible rfl))
    refine Late.tk 8 ?_ ?_ hH ?_ (hw:=by kernel_rfl);rotate_left;focus (intro wy hSw;(try dsimp only at hSw);obtain ⟨k0,k1,k2,k3,k4,k5⟩:=HCC.out wy hSw;go_simp;try (with_reducible rfl))
    refine Late.tk 9 ?_ ?_ hH ?_ (hw:=by kernel_rfl);rotate_left;focus (intro wy hSw;(try dsimp only at hSw);obtain ⟨k0,k1,k2,k3,k4,k5⟩:=HCC.out wy hSw;go_simp;try (with_reducible rfl))
    refine Late.tk 10 ?_ ?_ hH ?_ (hw:=by kernel_rfl);rotate_left;focus (intro wy hSw;(try dsimp only at hSw);obtain ⟨k0,k1,k2,k3,k4,k5⟩:=HCC.out wy hSw;go_simp;try (with_reducible rfl))
    refine Late.tk 11 ?_ ?_ hH ?_ (hw:=by kernel_rfl);rotate_left;focus (intro wy hSw;(try dsimp only at hSw);obtain ⟨k0,k1,k2,k3,k4,k5⟩:=HCC.out wy hSw;go_simp;try (with_reducible rfl))
    refine Late.tk 12 ?_ ?_ hH ?_ (hw:=by kernel_rfl);rotate_left;focus (intro wy hSw;(try dsimp only at hSw);obtain ⟨k0,k1,k2,k3,k4,k5⟩:=HCC.out wy hSw;go_simp;try (with_reducible rfl))
    refine Late.tk 13 ?_ ?_ hH ?_ (hw:=by kernel_rfl);rotate_left;focus (intro wy hSw;(try dsimp only at hSw);obtain ⟨k0,k1,k2,k3,k4,k5⟩:=HCC.out wy hSw;go_simp;try (with_reducible rfl))
    refine Late.tk 14 ?_ ?_ hH ?_ (hw:=by kernel_rfl);rotate_left;focus (intro wy hSw;(try dsimp only at hSw);obtain ⟨k0,k1,k2,k3,k4,k5⟩:=HCC.out wy hSw;go_simp;try (with_reducible rfl))
    refine Late.tk 15 ?_ ?_ hH ?_ (hw:=by kernel_rfl);rotate_left;focus (intro wy hSw;(try dsimp only at hSw);obtain ⟨k0,k1,k2,k3,k4,k5⟩:=HCC.out wy hSw;go_simp;try (with_reducible rfl))
    refine Late.tk 16 ?_ ?_ hH ?_ (hw:=by kernel_rfl);rotate_left;focus (intro wy hSw;(try dsimp only at hSw);obtain ⟨k0,k1,k2,k3,k4,k5⟩:=HCC.out wy hSw;go_simp;try (with_reducible rfl))
    refine Late.tk 17 ?_ ?_ hH ?_ (hw:=by kernel_rfl);rotate_left;focus (intro wy hSw;(try dsimp only at hSw);obtain ⟨k0,k1,k2,k3,k4,k5⟩:=HCC.out wy hSw;go_simp;try (with_reducible rfl))
    try simp only [Act.put,List.setIfInBounds_toArray,List.set_cons_zero,List.set_cons_succ]
    have HV:=Lib.hid hH
    generalize W.drew=V0 at HV hH ⊢
    refine Late.Goes.one (i:=18) (by kernel_rfl) (by simp only [List.getElem?_toArray,List.getElem?_cons_succ,List.getElem?_cons_zero];rfl) (fun K hK=>?_)
    clear hH
    go_simp
    have HBX:=Lib.hid (HV.out.alloc (.cells (Rec.cells (putK B x)) 35))
    have HSX:=Lib.hid (sees_one (f:=rcs (putK B x)) V0 35 (0,0) V0.heap.size 14 rfl rfl)
    change K (_:Act) (V0.alloc (.cells (rcs (putK B x)).toArray 35))
    have HBX2:=Lib.hid (show But (fun _=>False) W (V0.alloc (.cells (rcs (putK B x)).toArray 35)) from HBX.out)
    clear HBX
    generalize V0.alloc (.cells (rcs (putK B x)).toArray 35)=V1 at HBX2 HSX ⊢
    generalize V0.heap.size=z1 at HSX ⊢
    refine hK.out _ _ ?_ (fun hH=>?_)
    ·exact fun _=>HBX2.out
    clear hK K
    have hH:=hH rfl
    try simp only [Act.put,List.setIfInBounds_toArray,List.set_cons_zero,List.set_cons_succ]
    refine Late.Goes.one (i:=19) (by kernel_rfl) (by simp only [List.getElem?_toArray,List.getElem?_cons_succ,List.getElem?_cons_zero];rfl) (fun K hK=>?_)
    clear hH
    refine step_append_onto rfl (.tmp 22) (.tmp 40) _ rfl w.heap.size 35 i0 _ 14 128 Tryz.underlying62 hi0 hz0 hz1 hz2 rfl (by omega) (.slice a1 k c1) k _ rfl (ownsRow_but HO.out.1 (HBA.out.trans HBX2.out (fun _ _ h=>h)) (fun _ _ h=>h)) (.slice (some ⟨z1,0,none⟩) 1 1) 1 (rcs (putK B x)) rfl HSX.out (rcs_one _) (by simp only [maxLen];omega) (by omega) (by have:=(HBW.out.trans HBX2.out (fun _ _ h=>h)).size;omega) ?_
    intro v4 w4 ho4 hon4
    have HB4:=Lib.hid (show But (fun _=>False) w w4 from (HBW.out.trans HBX2.out (fun _ _ h=>h)).trans hon4.but (fun i hi e=>by have:=(HO.out.1.lt i e.symm).1;omega))
    have HO4:=Lib.hid ho4
    clear ho4 hon4
    refine hK.out _ _ ?_ (fun _=>?_)
    ·exact fun h=>by cases h
    clear hK K
    try simp only [Act.put,List.setIfInBounds_toArray,List.set_cons_zero,List.set_cons_succ]
    have hH:True:=trivial
    refine Late.Goes.one (i:=20) (by kernel_rfl) (by simp only [List.getElem?_toArray,List.getElem?_cons_succ,List.getElem?_cons_zero];rfl) (fun K hK=>?_)
    clear hH
    go_simp
    refine hK.out _ _ ?_ (fun _=>?_)
    ·exact fun h=>by cases h
    clear hK K
    try simp only [Act.put,List.setIfInBounds_toArray,List.set_cons_zero,List.set_cons_succ]
    refine Late.Goes.done (by kernel_rfl) ?_ _
    have HRW:=Lib.hid (show w4.ownsRow w.heap.size 35 14 v4 (k+1) (rcl ((Ks.take (k+1)).map (putK B))) from by
     have h1:=HO4.out
     rw [HFS.out,rcl_append]
     rw [show rcs (putK B x)=rcl [putK B x] from by simp [rcl]] at h1
     exact h1)
    go_wp2_with fail
    go_roundw
    case rel=>exact ⟨k+1,by omega,by go_num,HRW.out,HB4.out⟩
    case measure=>simp [intOf];omega
   ·have hkn:k=n:=by omega
    subst hkn
    have HE:=Lib.hid (show wr.ownsRow w.heap.size 35 14 (.slice a1 k c1) k (rcl (Ks.map (putK B)))∧But (fun _=>False) w wr from by
     have h1:=hown
     rw [show Ks.take k=Ks from by rw [HLN.out,List.take_length]] at h1
     exact ⟨h1,hbw⟩)
    clear hown hbw
    go_wp2_with fail
    go_ret
    exact ⟨_,rfl,HE.out.1,HE.out.2⟩
theorem rrecharge_any (h:RM w rp kv tv B Ks) (hl:Ks.length≤1000) (hg:Rgt.Good B.toks) (hok:∀ x ∈ Ks,OkX x) (hid:0≤B.id∧B.id < 64) (hgn:1≤B.gen∧B.gen < 4294967296):Calls Tryz.prog 17 #[.pointer (some ⟨rp,0,none⟩)] w fun e w'=>e = .returned (.tuple #[])∧RM w' rp kv tv { B with charged:=tokC B.toks.length+(34 * (Ks.length:Int)+kbytes Ks) } Ks∧But (fun k=>k=rp) w w':=by
 obtain ⟨i0,hi0,hz⟩:=Option.map_eq_some_iff.1 rzero
 simp only [Prod.mk.injEq] at hz
 obtain ⟨hz0,hz1,hz2⟩:=hz
 have HH:=Lib.hid h
 have HPU:=Lib.hid (fun V (hV:But (fun _=>False) w V)=>puts_any (h.new hV) hl)
 have HC8:=Lib.hid (fun V (hV:But (fun _=>False) w V)=>show V.cell? ⟨rp,8,none⟩=some tv from (h.new hV).blk.cell 8)
 have hgl:=hg.len
 have HSUM:=Lib.hid (show csum (Ks.map (putK B)++B.toks.map (tokR B.id B.gen))=tokC B.toks.length+(34 * (Ks.length:Int)+kbytes Ks) from by
  rw [csum_append,csum_puts hid hgn.1 hok,csum_toks hid hgn.1 hg.ok]
  omega)
 have HMY:=Lib.hid (show ∀ r ∈ Ks.map (putK B)++B.toks.map (tokR B.id B.gen),Rec.May r∧Rec.Is r from fun r hr=>by
  rcases List.mem_append.1 hr with hr|hr
  ·obtain ⟨x,hx,rfl⟩:=List.mem_map.1 hr
   have ho:=hok x hx
   exact ⟨may_putS hid hgn.1 ho.key ho.val,is_putS hid hgn.2 ho.key.2 ho.val ho.ver ho.exp⟩
  ·obtain ⟨x,hx,rfl⟩:=List.mem_map.1 hr
   exact ⟨may_tokR hid hgn.1 (hg.ok x hx),tokR_is (by omega) hgn.2 hg _ hr⟩)
 obtain ⟨AL,hAL⟩:∃ l,l=Ks.map (putK B)++B.toks.map (tokR B.id B.gen):=⟨_,rfl⟩
 rw [← hAL] at HSUM HMY
 have HAL:=Lib.hid hAL
 have hlen:AL.length=Ks.length+B.toks.length:=by rw [hAL,List.length_append,List.length_map,List.length_map]
 obtain ⟨n,hn⟩:∃ n,n=Ks.length:=⟨_,rfl⟩
 obtain ⟨q,hq⟩:∃ q,q=B.toks.length:=⟨_,rfl⟩
 rw [← hn] at HPU hl hlen
 rw [← hq] at hgl hlen
 have HNQ:=Lib.hid (And.intro hn hq)
 clear h hok hg hid hgn hAL hn hq
 go_enter Tryz.func17,Tryz.ntmps17
 go_wp2_with fail
 refine Late.region_goes (fun V=>But (fun _=>False) w V) (fun j=>Nat.ble 6 j) (by kernel_rfl) ?_ (fun hH=>?_)
 ·exact (But.refl _ w).drew
 refine Late.tk 0 ?_ ?_ hH ?_;rotate_left 2
 refine Late.tk 2 ?_ ?_ hH ?_;rotate_left 2
 refine Late.tk 3 ?_ ?_ hH ?_;rotate_left 2
 refine Late.tk 4 ?_ ?_ hH ?_;rotate_left 2
 refine Late.tk 5 ?_ ?_ hH ?_;rotate_left 2
 rotate_left
 any_goals (intro wy hSw;(try dsimp only at hSw);have k0:=HC8.out wy hSw;go_simp;try (with_reducible rfl))
 try simp only [Act.put,List.setIfInBounds_toArray,List.set_cons_zero,List.set_cons_succ]
 have HV:=Lib.hid hH
 refine Late.Goes.one (i:=1) (by kernel_rfl) (by simp only [List.getElem?_toArray,List.getElem?_cons_succ,List.getElem?_cons_zero];rfl) (fun K hK=>?_)
 clear hH
 go_simp
 go_at_call 50
 refine (HPU.out _ HV.out).mono ?_
 rintro e w1 ⟨v1,rfl,ho1,hb1⟩
 have HB1:=Lib.hid (HV.out.trans hb1 (fun _ _ h=>h))
 have HO1:=Lib.hid (show w1.ownsRow w.heap.size 35 14 v1 n (rcl (Ks.map (putK B))) from own_less ho1 HV.out.size)
 clear ho1 hb1
 refine hK.out _ _ ?_ (fun hH=>?_)
 ·exact fun _=>HB1.out
 clear hK K
 have hH:=hH rfl
 try simp only [Act.put,List.setIfInBounds_toArray,List.set_cons_zero,List.set_cons_succ]
 have HSE:=Lib.hid (own_all (HH.out.new HB1.out).toks)
 rw [← HNQ.out.2] at HSE
 refine Late.Goes.one (i:=6) (by kernel_rfl) (by simp only [List.getElem?_toArray,List.getElem?_cons_succ,List.getElem?_cons_zero];rfl) (fun K hK=>?_)
 clear hH
 refine step_append_onto rfl (.tmp 5) (.tmp 9) _ rfl w.heap.size 35 i0 _ 14 128 Tryz.underlying62 hi0 hz0 hz1 hz2 rfl (by omega) v1 n _ rfl HO1.out tv q _ rfl HSE.out (rcl_one _) (by simp only [maxLen];omega) (by omega) HB1.out.size ?_
 intro v2 w2 ho2 hon2
 have HB2:=Lib.hid (show But (fun _=>False) w w2 from HB1.out.trans hon2.but (fun i hi e=>by have:=(HO1.out.lt i e.symm).1;omega))
 obtain ⟨N,hN⟩:∃ N,N=n+q:=⟨_,rfl⟩
 rw [← hN] at ho2 hlen
 rw [← rcl_append,← HAL.out] at ho2
 obtain ⟨a2,c2,rfl,_⟩:=own_form ho2
 have HO2:=Lib.hid ho2
 have hN2:N≤1100:=by omega
 clear ho2 hon2 hN
 refine hK.out _ _ ?_ (fun _=>?_)
 ·exact fun h=>by cases h
 clear hK K
 try simp only [Act.put,List.setIfInBounds_toArray,List.set_cons_zero,List.set_cons_succ]
 have hH:True:=trivial
 refine Late.Goes.one (i:=7) (by kernel_rfl) (by simp only [List.getElem?_toArray,List.getElem?_cons_succ,List.getElem?_cons_zero];rfl) (fun K hK=>?_)
 clear hH
 go_simp
 refine hK.out _ _ ?_ (fun _=>?_)
 ·exact fun h=>by cases h
 clear hK K
 try simp only [Act.put,List.setIfInBounds_toArray,List.set_cons_zero,List.set_cons_succ]
 refine Late.Goes.done (by kernel_rfl) ?_ _
 have k9:w2.cell? ⟨rp,9,none⟩=some (.int .i64 B.charged):=(HH.out.new HB2.out).blk.cell 9
 have f9:w2.frozen? ⟨rp,9,none⟩=false:=(HH.out.new HB2.out).blk.frozen 9
 have hst:=(HH.out.new HB2.out).set_ 9 (.int .i64 0) (B':={ B with charged:=csum (AL.take 0) }) rfl rfl rfl rfl
 have hor:=ownsRow_but HO2.out hst.2 (fun k hk e=>own_blk_ne HO2.out (HH.out.new HB2.out).blk (by decide) (e ▸ hk))
 have HST:=Lib.hid (And.intro hst.1 (And.intro hor ((HB2.out.mono (fun _ _ h=>h.elim)).trans' hst.2)))
 clear hst hor
 go_wp2_with fail
 clear k9 f9
 go_loopw [3] (fun v wr=>∃ k:Nat,k≤N∧v = .int .i64 (k:Int)∧RM wr rp kv tv { B with charged:=csum (AL.take k) } Ks∧wr.ownsRow w.heap.size 35 14 (.slice a2 N c2) N (rcl AL)∧But (fun k=>k=rp) w wr) (fun v _=>N - (intOf v).toNat)
 case atStart=>exact ⟨0,Nat.zero_le _,rfl,HST.out.1,HST.out.2.1,HST.out.2.2⟩
 case round =>
  obtain ⟨k,hk,rfl,hrm,hown,hbw⟩:=hrel
  by_cases hlt:k < N
  ·have hki:(k:Int) < (N:Int):=by omega
   have hkA:k < AL.length:=by rw [hlen];exact hlt
   obtain ⟨g,rfl⟩:∃ g,a2=some ⟨g,0,none⟩:=by
    rcases hown.2 with ⟨_,h0⟩|⟨g,cap,cur,e,_⟩
    ·omega
    ·injection e with e;exact ⟨g,e⟩
   have HRG:=Lib.hid (show ∀ V,But (fun _=>False) wr V→V.rangeAt g (k * 14) (rcs AL[k]) from fun V hV j u hu=>by
    have h1:=ownsRow_but hown hV (fun _ _ h=>h)
    have hj:j < 14:=(List.getElem?_eq_some_iff.1 hu).1
    have h2:=h1.cellAt (k * 14+j) (by omega)
    (try rw [Nat.zero_add] at h2)
    rw [h2]
    show (AL.flatMap rcs)[k * 14+j]?=_
    rw [flat_get rcs_length (List.getElem?_eq_getElem hkA) hj]
    exact hu)
   have hmy:=HMY.out _ (List.getElem_mem hkA)
   have HSN:=Lib.hid (show csum (AL.take (k+1))=csum (AL.take k)+Rec.costOf AL[k] from by rw [List.take_succ_eq_append_getElem hkA,csum_snoc])
   have hcl:=cost_le hmy.1
   have hcb:0≤csum (AL.take k)∧csum (AL.take k)≤1098 * (k:Int):=by
    have:∀ l:List Rcd,(∀ r ∈ l,Rec.May r)→0≤csum l∧csum l≤1098 * (l.length:Int):=fun l=>by
     induction l with
     | nil=>intro _;simp [csum]
     | cons y l ih =>
      intro hm
      have h1:=cost_le (hm y (List.mem_cons_self ..))
      have h2:=ih (fun r hr=>hm r (List.mem_cons_of_mem _ hr))
      simp only [csum,List.length_cons]
      omega
    have h1:=this (AL.take k) (fun r hr=>(HMY.out r (List.mem_of_mem_take hr)).1)
    rw [List.length_take] at h1
    omega
   obtain ⟨r,hr⟩:∃ r,r=AL[k]:=⟨_,rfl⟩
   rw [← hr] at HRG hmy HSN hcl
   have HMR:=Lib.hid hmy
   obtain ⟨c,hc⟩:∃ c,c=Rec.costOf r:=⟨_,rfl⟩
   have HCC:=Lib.hid hc
   rw [← hc] at HSN hcl
   obtain ⟨z,hz⟩:∃ z,z=csum (AL.take k):=⟨_,rfl⟩
   rw [← hz] at HSN hcb hrm
   have HRM:=Lib.hid (And.intro hrm (And.intro hown hbw))
   have HC9:=Lib.hid (fun V (hV:But (fun _=>False) wr V)=>show V.cell? ⟨rp,9,none⟩=some (.int .i64 z) from (hrm.new hV).blk.cell 9)
   have HF9:=Lib.hid (fun V (hV:But (fun _=>False) wr V)=>show V.frozen? ⟨rp,9,none⟩=false from (hrm.new hV).blk.frozen 9)
   have ww:IntKind.i64.wrap (z+c)=z+c:=IntWalk.i64_in _ (by omega)
   clear hmy hcl hcb hr hc hz hrm hown hbw
   go_wp2_with fail
   refine Late.region_goes (fun V=>But (fun _=>False) wr V) (fun j=>j == 13) (by kernel_rfl) ?_ (fun hH=>?_)
   ·exact (But.refl _ wr).drew
   refine Late.tk 0 ?_ ?_ hH ?_;rotate_left 2
   refine Late.tk 1 ?_ ?_ hH ?_;rotate_left 2
   refine Late.tk 2 ?_ ?_ hH ?_;rotate_left 2
   refine Late.tk 3 ?_ ?_ hH ?_;rotate_left 2
   refine Late.tk 4 ?_ ?_ hH ?_;rotate_left 2
   refine Late.tk 5 ?_ ?_ hH ?_;rotate_left 2
   refine Late.tk 6 ?_ ?_ hH ?_;rotate_left 2
   refine Late.tk 7 ?_ ?_ hH ?_;rotate_left 2
   rotate_left
   any_goals (intro wy hSw;(try dsimp only at hSw);have k0:=HC9.out wy hSw;go_simp;try (with_reducible rfl))
   try simp only [Act.put,List.setIfInBounds_toArray,List.set_cons_zero,List.set_cons_succ]
   refine Late.Goes.takeT (i:=8) (v:=_) (by simp only [List.getElem?_toArray,List.getElem?_cons_succ,List.getElem?_cons_zero];rfl) (by kernel_rfl) (by kernel_rfl) (by kernel_rfl) (by kernel_rfl) (by kernel_rfl) (by exact fun _ _ _ h=>h) (yields_rec (by rfl) _ rfl g (k * 14) rfl r (fun V hV=>HRG.out V hV)) hH ?_
   try simp only [Act.put,List.setIfInBounds_toArray,List.set_cons_zero,List.set_cons_succ]
   have HV5:=Lib.hid hH
   refine Late.Goes.one (i:=9) (by kernel_rfl) (by simp only [List.getElem?_toArray,List.getElem?_cons_succ,List.getElem?_cons_zero];rfl) (fun K hK=>?_)
   clear hH
   go_simp
   go_at_call 40
   refine (Rec.refCost_any r HMR.out.1 HMR.out.2 _).mono ?_
   rintro e wy ⟨rfl,hbe⟩
   rw [← HCC.out]
   have HVy:=Lib.hid (HV5.out.trans (But.of_new hbe:But (fun _=>False) _ _) (fun _ _ h=>h))
   clear hbe
   refine hK.out _ _ ?_ (fun hH=>?_)
   ·exact fun _=>HVy.out
   clear hK K
   have hH:=hH rfl
   try simp only [Act.put,List.setIfInBounds_toArray,List.set_cons_zero,List.set_cons_succ]
   refine Late.tk 10 ?_ ?_ hH ?_;rotate_left 2
   refine Late.tk 11 ?_ ?_ hH ?_;rotate_left 2
   refine Late.tk 12 ?_ ?_ hH ?_;rotate_left 2
   rotate_left
   any_goals (intro wy hSw;(try dsimp only at hSw);have k0:=HC9.out wy hSw;go_simp;try (with_reducible rfl))
   try simp only [Act.put,List.setIfInBounds_toArray,List.set_cons_zero,List.set_cons_succ]
   have k9:=HC9.out _ HVy.out
   have f9:=HF9.out _ HVy.out
   refine Late.Goes.one (i:=13) (by kernel_rfl) (by simp only [List.getElem?_toArray,List.getElem?_cons_succ,List.getElem?_cons_zero];rfl) (fun K hK=>?_)
   clear hH
   go_simp
   clear k9 f9
   have hst:=(HRM.out.1.new HVy.out).set_ 9 (.int .i64 (z+c)) (B':={ B with charged:=z+c }) rfl rfl rfl rfl
   have hor:=ownsRow_but (ownsRow_but HRM.out.2.1 HVy.out (fun _ _ h=>h)) hst.2 (fun k hk e=>own_blk_ne (ownsRow_but HRM.out.2.1 HVy.out (fun _ _ h=>h)) (HRM.out.1.new HVy.out).blk (by decide) (e ▸ hk))
   have HST5:=Lib.hid (show RM (wy.setCell ⟨rp,9,none⟩ (.int .i64 (z+c))) rp kv tv { B with charged:=csum (AL.take (k+1)) } Ks∧(wy.setCell ⟨rp,9,none⟩ (.int .i64 (z+c))).ownsRow w.heap.size 35 14 (.slice (some ⟨g,0,none⟩) N c2) N (rcl AL)∧But (fun k=>k=rp) w (wy.setCell ⟨rp,9,none⟩ (.int .i64 (z+c))) from ⟨by rw [HSN.out];exact hst.1,hor,HRM.out.2.2.trans' ((HVy.out.mono (fun _ _ h=>h.elim)).trans' hst.2)⟩)
   clear hst hor
   generalize wy.setCell ⟨rp,9,none⟩ (.int .i64 (z+c))=wx at HST5 ⊢
   refine hK.out _ _ ?_ (fun _=>?_)
   ·exact fun h=>by cases h
   clear hK K
   try simp only [Act.put,List.setIfInBounds_toArray,List.set_cons_zero,List.set_cons_succ]
   refine Late.Goes.done (by kernel_rfl) ?_ _
   clear ww
   go_wp2_with fail
   go_roundw
   case rel=>exact ⟨k+1,by omega,by go_num,HST5.out.1,HST5.out.2.1,HST5.out.2.2⟩
   case measure=>simp [intOf];omega
  ·have hkN:k=N:=by omega
   subst hkN
   rw [show AL.take k=AL from by rw [← hlen,List.take_length],HSUM.out] at hrm
   have HE:=Lib.hid (And.intro hrm hbw)
   clear hrm hown hbw
   go_wp2_with fail
   go_end0
   exact ⟨rfl,HE.out.1,HE.out.2⟩
end
end Go.Proofs.YtgjofinbdigmcaaGreat.Buk
