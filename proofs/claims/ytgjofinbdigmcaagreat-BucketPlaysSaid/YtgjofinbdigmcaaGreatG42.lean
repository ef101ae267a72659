/- BucketPlays, for every input: the statement's row, lifted from the walk of the law. -/
import Derived.Test.YtgjofinbdigmcaaGreatRows
import Derived.Test.YtgjofinbdigmcaaGreatG41
import Derived.WalkKit
import Derived.ProofKit
import Derived.OpenShut
import Derived.ShutString
import Derived.ChangeOld
import Derived.Below
set_option linter.unusedVariables false
set_option maxRecDepth 100000
namespace Go.Proofs.YtgjofinbdigmcaaGreat.bucketPlays
open Go.ChangeShapes Go.WideShapes Go.ChangeAt Go.RowKit
open Go.ChangeMaps (open_string shut_string)
section
variable {H:Type} {enc:TypeId × Value→H} {w:World} {spare:Nat→Bool} {held:Bool}
theorem list4 {α:Type} {l:List α} (h:l.length=4):∃ y0 y1 y2 y3,l=[y0,y1,y2,y3]:=by
 rcases l with _|⟨a,_|⟨b,_|⟨c,_|⟨d,_|⟨e,r⟩⟩⟩⟩⟩ <;> simp at h
 exact ⟨a,b,c,d,rfl⟩
theorem token_open {fuel:Nat} {cs:List Value} {z:DataW H × List MemPlace} (h:DataW.trod enc Tryz.prog w 0 spare held fuel 28 cs=some z):∃ t:Buk.Tkn,cs=[.int .i64 t.bucket,.int .u32 (t.gen:Int),.int .u32 (t.serial:Int),.int .u64 (t.secret:Int)]∧Buk.OkK t:=by
 have k_i:Tryz.prog.cellsOf 3=1:=by kernel_rfl
 have k_w:Tryz.prog.cellsOf 22=1:=by kernel_rfl
 have k_u:Tryz.prog.cellsOf 26=1:=by kernel_rfl
 have k_r:Tryz.prog.cellsOf 28=4:=by kernel_rfl
 obtain ⟨xs,n,_,_,hcl,hlen,hall⟩:=DataW.trod_struct Tryz.underlying28 h
 rw [k_r] at hcl
 clear h
 obtain ⟨v0,v1,v2,v3,rfl⟩:=list4 hcl
 obtain ⟨y0,y1,y2,y3,rfl⟩:=list4 hlen
 have h0:=hall 0 _ rfl
 have h1:=hall 1 _ rfl
 have h2:=hall 2 _ rfl
 have h3:=hall 3 _ rfl
 clear hall
 simp [k_i,k_w,k_u] at h0 h1 h2 h3
 obtain ⟨n0,e0,_,w0⟩:=DataW.trod_int Tryz.underlying3 h0
 injection e0 with e0
 subst e0
 obtain ⟨n1,e1,_,w1⟩:=DataW.trod_int Tryz.underlying22 h1
 injection e1 with e1
 subst e1
 obtain ⟨n2,e2,_,w2⟩:=DataW.trod_int Tryz.underlying22 h2
 injection e2 with e2
 subst e2
 obtain ⟨n3,e3,_,w3⟩:=DataW.trod_int Tryz.underlying26 h3
 injection e3 with e3
 subst e3
 obtain ⟨m1,rfl,g1⟩:=Rec.wfu32 w1
 obtain ⟨m2,rfl,g2⟩:=Rec.wfu32 w2
 obtain ⟨m3,rfl,g3⟩:=Rec.wfu64 w3
 exact ⟨⟨n0,m1,m2,m3⟩,rfl,⟨Rec.wf64 w0,g1,g2,g3⟩⟩
end
theorem own:ownKnob Tryz.prog.godebug=none:=by kernel_rfl
theorem laidOut:laidOutB Tryz.prog=true:=by kernel_rfl
theorem lifted (os:Os) (started:os.Started) (H:Type) (enc:TypeId × Value→H) :
  ReturnsInHanded {} Tryz.checked os 3 .any (Rows.bucketPlaysSpec.pre6 enc Tryz.prog Tryz.f3 Rows.bucketPlaysRow.domain false) (Rows.bucketPlaysSpec.post enc Tryz.prog Tryz.f3 false true false false):=by
 refine returnsInHanded_of_change (C:=Tryz.checked) own started (by kernel_rfl) Tryz.func3
  (ChangeSpec.witness6 (enc:=enc) (C:=Tryz.checked) false ⟨#[],#[.int .i64 0,.int .u32 0,.agg #[.int .i64 0,.int .i64 0,.int .i64 0],.slice none 0 0,.agg #[.int .i64 0,.int .u32 0,.int .u32 0,.int .u64 0]],[]⟩ 8 (by kernel_rfl) (by kernel_rfl) (by kernel_rfl) (by kernel_rfl)) ?_
 intro W base args ds gs before hval0 hW hcnd _
 have hval:∀ (j:Nat) t v,Tryz.f3.params[j]?=some t→args[j]?=some v→Value.okWide Tryz.prog W .any base t v:=hval0
 have hW':=hW
 obtain ⟨p,q,hA0,hV,rfl,hfz,hnd⟩:=hW
 have hA:DataW.TrodAll enc Tryz.prog W 0 (fun _=>true) true Tryz.f3.params.toList args.toList ds p:=hA0
 rw [Tryz.params3] at hA hval
 obtain ⟨v0,vs0,d0,ds0,p0,q0,hargs,rfl,rfl,h0,r0⟩:=trodAll_cons hA
 obtain ⟨v1,vs1,d1,ds1,p1,q1,rfl,rfl,rfl,h1,r1⟩:=trodAll_cons r0
 obtain ⟨v2,vs2,d2,ds2,p2,q2,rfl,rfl,rfl,h2,r2⟩:=trodAll_cons r1
 obtain ⟨v3,vs3,d3,ds3,p3,q3,rfl,rfl,rfl,h3,r3⟩:=trodAll_cons r2
 obtain ⟨v4,vs4,d4,ds4,p4,q4,rfl,rfl,rfl,h4,r4⟩:=trodAll_cons r3
 obtain ⟨rfl,rfl,rfl⟩:=trodAll_nil r4
 obtain rfl:args = #[v0,v1,v2,v3,v4]:=by cases args;simp_all
 obtain ⟨rfl,rfl⟩:=trodVars_none hV
 have k2:=h2
 have lt2:∀ x ∈ p2,x.block < W.heap.size:=by obtain ⟨m,hm⟩:=k2;exact DataW.trod_lt m _ _ _ hm
 have k3:=h3
 have lt3:∀ x ∈ p3,x.block < W.heap.size:=by obtain ⟨m,hm⟩:=k3;exact DataW.trod_lt m _ _ _ hm
 have k4:=h4
 have lt4:∀ x ∈ p4,x.block < W.heap.size:=by obtain ⟨m,hm⟩:=k4;exact DataW.trod_lt m _ _ _ hm
 obtain ⟨id,rfl,rfl,rfl,w0⟩:=open_int Tryz.underlying3 (hval 0 3 v0 rfl rfl) h0
 obtain ⟨gi,rfl,rfl,rfl,w1⟩:=open_int Tryz.underlying22 (hval 1 22 v1 rfl rfl) h1
 obtain ⟨gen,rfl,hgen⟩:=Rec.wfu32 w1
 obtain ⟨qa,qb,qc,rfl⟩:∃ qa qb qc:Int,v2 = .agg #[.int .i64 qa,.int .i64 qb,.int .i64 qc]:=by
  obtain ⟨cs,rfl,_⟩:=okWide_struct Tryz.underlying24 (hval 2 24 v2 rfl rfl)
  obtain ⟨m,hm⟩:=h2
  obtain ⟨qa,qb,qc,hr⟩:=Buk.quota_open hm
  refine ⟨qa,qb,qc,?_⟩
  have:cs=(#[.int .i64 qa,.int .i64 qb,.int .i64 qc]:Array Value):=Array.toList_inj.1 (by simpa [Value.cells] using hr)
  rw [this]
 obtain ⟨a,l,c,rfl,hD,hlc,hcm⟩:∃ (a:Option Addr) (l:List Buk.Deed) (c:Nat),v3 = .slice a l.length c∧Buk.Deeds W a l∧l.length≤c∧c≤maxLen:=by
  obtain ⟨m,hm⟩:=h3
  obtain ⟨a4,l4,c4,rfl⟩:=okWide_slice Tryz.underlying25 (hval 3 25 v3 rfl rfl)
  exact Buk.deeds_read (by simpa [Value.cells] using hm)
 obtain ⟨t,rfl,ht⟩:∃ t:Buk.Tkn,v4 = .agg #[.int .i64 t.bucket,.int .u32 (t.gen:Int),.int .u32 (t.serial:Int),.int .u64 (t.secret:Int)]∧Buk.OkK t:=by
  obtain ⟨cs,rfl,_⟩:=okWide_struct Tryz.underlying28 (hval 4 28 v4 rfl rfl)
  obtain ⟨m,hm⟩:=h4
  obtain ⟨t,hr,ht⟩:=token_open hm
  refine ⟨t,?_,ht⟩
  have:cs=(#[.int .i64 t.bucket,.int .u32 (t.gen:Int),.int .u32 (t.serial:Int),.int .u64 (t.secret:Int)]:Array Value):=Array.toList_inj.1 (by simpa [Value.cells] using hr)
  rw [this]
 have hmx:maxLen=9223372036854775807:=rfl
 rw [hmx] at hcm
 clear hA0 hval0
 have walk:Calls Tryz.prog 3 #[.int .i64 id,.int .u32 (gen:Int),.agg #[.int .i64 qa,.int .i64 qb,.int .i64 qc],.slice a l.length c,.agg #[.int .i64 t.bucket,.int .u32 (t.gen:Int),.int .u32 (t.serial:Int),.int .u64 (t.secret:Int)]] W fun e w'=>e = .returned (.bool true)∧Below W.heap.size W w':=by
  by_cases h:l.length≤150
  ·exact (Buk.plays_any id gen qa qb qc a l c t W hD (Rec.wf64 w0) hgen ht h).mono (fun e w' h=>⟨h.1,h.2.new⟩)
  ·exact (Buk.plays_away id gen qa qb qc a l.length c t W (by omega) (by omega)).mono (fun e w' h=>⟨h.1,h.2.new⟩)
 refine walk.mono fun e W' ⟨he,bel⟩=>?_
 subst he
 exact ⟨_,rfl,_,_,_,[],_,[],hW',trodAll_mk1 (shut_bool Tryz.underlying4 _),(trodAll_cons_mk (shut_int Tryz.underlying3 w0) (trodAll_cons_mk (shut_int Tryz.underlying22 w1) (trodAll_cons_mk (Below.trod laidOut (by kernel_rfl) (of_decide_eq_true (by kernel_rfl)) k2 bel lt2) (trodAll_cons_mk (Below.trod laidOut (by kernel_rfl) (of_decide_eq_true (by kernel_rfl)) k3 bel lt3) (trodAll_cons_mk (Below.trod laidOut (by kernel_rfl) (of_decide_eq_true (by kernel_rfl)) k4 bel lt4) trodAll_mk0))))),rfl,bel.frame _,fun h=>by cases h⟩
theorem over:Rows.bucketPlaysRow.holds Tryz.pinned (OpenSpec.ofChange Rows.bucketPlaysSpec) :=
 OpenClaim.holds_of_wide 3 Tryz.f3 rfl rfl rfl rfl rfl rfl rfl ⟨rfl,rfl,rfl,rfl,rfl⟩ rfl rfl rfl rfl rfl (by kernel_rfl) Tryz.func3 (by kernel_rfl)
  (of_decide_eq_true (by kernel_rfl)) (by unfold Func.isWrapper;first|(rw [if_pos (by decide +kernel)];kernel_rfl)|(rw [if_neg (by decide +kernel)];exact ⟨rfl,rfl⟩))
  (fun os started H enc _=>lifted os started H enc)
theorem proved:Rows.BucketPlaysSaid:=over
end Go.Proofs.YtgjofinbdigmcaaGreat.bucketPlays
