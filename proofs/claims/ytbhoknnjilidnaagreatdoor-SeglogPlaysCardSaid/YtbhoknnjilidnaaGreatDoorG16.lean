/- What is read next: the walks of record.next and record.nextQuota. -/
import Derived.Test.YtbhoknnjilidnaaGreatDoorG11
set_option linter.unusedSimpArgs false
set_option linter.unusedVariables false
set_option maxHeartbeats 2000000
set_option maxRecDepth 100000
namespace Go.Proofs.YtbhoknnjilidnaaGreatDoor.Rec
open Go.Proofs.YtbhoknnjilidnaaGreatDoor.Mem Go.Proofs.YtbhoknnjilidnaaGreatDoor.Pack
open Go.ChangeShapes Go.WideShapes Go.ChangeAt Go.RowKit
theorem quota_size:(Tryz.prog.info? 76).map (·.size)=some 3:=by kernel_rfl
theorem nextQuota_any (p D:Nat) (P:Pos) (hB0:Bytes P.zs) (w:World) (h:RdP p D w P) (hp:p < w.heap.size) (hD:D < w.heap.size):Calls Tryz.prog 122 #[.pointer (some ⟨p,0,none⟩)] w fun e w' =>
  e = .returned (.agg #[.int .i64 (wrap64 ((P.num 8:Nat):Int)),.int .i64 (wrap64 (((P.skip 8).num 8:Nat):Int)),.int .i64 (wrap64 ((((P.skip 8).skip 8).num 8:Nat):Int))])∧RdP p D w' (((P.skip 8).skip 8).skip 8)∧But (fun b=>b=p) w w':=by
 have hS:∀ k,k=p→k < w.heap.size:=fun k e=>e ▸ hp
 have fr:=rdP_keeps hp hD
 have hs0:=Rdg.start (S:=fun b=>b=p) (t:=76) fr h #[.int .i64 0,.int .i64 0,.int .i64 0]
 obtain ⟨n1,hn1⟩:∃ n,n=P.num 8:=⟨_,rfl⟩
 have hl1:n1 < 18446744073709551616:=by rw [hn1];exact num8_lt hB0
 obtain ⟨p1,hp1⟩:∃ x,x=P.skip 8:=⟨_,rfl⟩
 have hB1:Bytes p1.zs:=by rw [hp1];exact skip_bytes hB0 8
 have k1:=fun w=>rdP_number p D P 8 (by omega) (by omega) w
 rw [← hn1,← hp1] at k1
 obtain ⟨n2,hn2⟩:∃ n,n=p1.num 8:=⟨_,rfl⟩
 have hl2:n2 < 18446744073709551616:=by rw [hn2];exact num8_lt hB1
 obtain ⟨p2,hp2⟩:∃ x,x=p1.skip 8:=⟨_,rfl⟩
 have hB2:Bytes p2.zs:=by rw [hp2];exact skip_bytes hB1 8
 have k2:=fun w=>rdP_number p D p1 8 (by omega) (by omega) w
 rw [← hn2,← hp2] at k2
 obtain ⟨n3,hn3⟩:∃ n,n=p2.num 8:=⟨_,rfl⟩
 have hl3:n3 < 18446744073709551616:=by rw [hn3];exact num8_lt hB2
 obtain ⟨p3,hp3⟩:∃ x,x=p2.skip 8:=⟨_,rfl⟩
 have hB3:Bytes p3.zs:=by rw [hp3];exact skip_bytes hB2 8
 have k3:=fun w=>rdP_number p D p2 8 (by omega) (by omega) w
 rw [← hn3,← hp3] at k3
 rw [← hp1,← hn1,← hp2,← hn2,← hp3,← hn3]
 clear hp1 hn1 hp2 hn2 hp3 hn3 h
 go_enter Tryz.func122,Tryz.ntmps122
 go_wp2_with fail
 refine (k1 _ hs0.rd).mono ?_
 rintro e w1 ⟨rfl,hr,hb⟩
 have hr1:=hs0.read hS hr hb
 clear hr hb hs0 k1
 have c0:w1.cell? ⟨w.heap.size+1,0,none⟩=some (.int .i64 0):=hr1.cell 0 rfl
 have f0:w1.frozen? ⟨w.heap.size+1,0,none⟩=false:=hr1.frozen 0
 have hs1:=hr1.set fr 0 (.int .i64 (wrap64 (n1:Int))) (cs' := #[.int .i64 (wrap64 (n1:Int)),.int .i64 0,.int .i64 0]) rfl
 clear hr1
 go_wp2_with fail
 refine (k2 _ hs1.rd).mono ?_
 rintro e w2 ⟨rfl,hr,hb⟩
 have hr2:=hs1.read hS hr hb
 clear hr hb hs1 k2
 have c1:w2.cell? ⟨w.heap.size+1,1,none⟩=some (.int .i64 0):=hr2.cell 1 rfl
 have f1:w2.frozen? ⟨w.heap.size+1,1,none⟩=false:=hr2.frozen 1
 have hs2:=hr2.set fr 1 (.int .i64 (wrap64 (n2:Int))) (cs' := #[.int .i64 (wrap64 (n1:Int)),.int .i64 (wrap64 (n2:Int)),.int .i64 0]) rfl
 clear hr2
 go_wp2_with fail
 refine (k3 _ hs2.rd).mono ?_
 rintro e w3 ⟨rfl,hr,hb⟩
 have hr3:=hs2.read hS hr hb
 clear hr hb hs2 k3
 have c2:w3.cell? ⟨w.heap.size+1,2,none⟩=some (.int .i64 0):=hr3.cell 2 rfl
 have f2:w3.frozen? ⟨w.heap.size+1,2,none⟩=false:=hr3.frozen 2
 have hs3:=hr3.set fr 2 (.int .i64 (wrap64 (n3:Int))) (cs' := #[.int .i64 (wrap64 (n1:Int)),.int .i64 (wrap64 (n2:Int)),.int .i64 (wrap64 (n3:Int))]) rfl
 clear hr3
 have HBX:=Lib.hid (show _=_ from hs3.box)
 have HRX:=Lib.hid (show _=_ from hs3.res)
 obtain ⟨hl1,hl2⟩:=hs3.last fr #[.int .i64 (wrap64 (n1:Int)),.int .i64 (wrap64 (n2:Int)),.int .i64 (wrap64 (n3:Int))]
 clear hs3
 have hone:(#[.int .i64 (wrap64 (n1:Int)),.int .i64 (wrap64 (n2:Int)),.int .i64 (wrap64 (n3:Int))]:Array Value).all (fun x=>x.oneCell')=true:=by simp [Value.oneCell']
 have HONE:=Lib.hid hone
 clear hone
 have HOLD:=Lib.hid (show (#[.int .i64 0,.int .i64 0,.int .i64 0]:Array Value).size=(#[.int .i64 (wrap64 (n1:Int)),.int .i64 (wrap64 (n2:Int)),.int .i64 (wrap64 (n3:Int))]:Array Value).size by simp)
 have HSZ:=Lib.hid (quota_size.trans (show some 3=some (#[.int .i64 (wrap64 (n1:Int)),.int .i64 (wrap64 (n2:Int)),.int .i64 (wrap64 (n3:Int))]:Array Value).size by simp))
 go_wp2_with (first
  | (refine wpList_load_row rfl 76 _ rfl (w.heap.size+1) rfl 76 _ (0,0) _ HBX.out Tryz.underlying76 rfl HSZ.out ?_)
  | (refine wpList_store_rowTo rfl 76 _ _ rfl rfl w.heap.size #[.int .i64 (wrap64 (n1:Int)),.int .i64 (wrap64 (n2:Int)),.int .i64 (wrap64 (n3:Int))] rfl rfl 76 #[.int .i64 0,.int .i64 0,.int .i64 0] HRX.out HSZ.out HOLD.out HONE.out ?_))
 refine bodyPost_ret (results_cell_row rfl _ _ w.heap.size 76 #[.int .i64 (wrap64 (n1:Int)),.int .i64 (wrap64 (n2:Int)),.int .i64 (wrap64 (n3:Int))] (0,0) _ rfl (setRow_heap _ _ _ _ _ _ HRX.out) Tryz.underlying76 rfl HSZ.out) rfl ?_
 refine ⟨?_,hl1,hl2⟩
 rfl
theorem next_0 (p D:Nat) (P:Pos) (hB0:Bytes P.zs) (hk:P.num 1≠1∧P.num 1≠3∧P.num 1≠4∧P.num 1≠5∧P.num 1≠6) (w:World) (h:RdP p D w P) (hp:p < w.heap.size) (hD:D < w.heap.size):Calls Tryz.prog 113 #[.pointer (some ⟨p,0,none⟩)] w fun e w' =>
  e = .returned (rv (first P))∧RdP p D w' (behind P)∧But (fun b=>b=p) w w':=by
 have hS:∀ k,k=p→k < w.heap.size:=fun k e=>e ▸ hp
 have fr:=rdP_keeps hp hD
 have hs0:=Rdg.start (S:=fun b=>b=p) (t:=79) fr h #[.int .i64 0,.int .i64 0,.int .u32 0,.int .i64 0,.int .i64 0,.int .i64 0,.int .u64 0,.int .u32 0,.int .i64 0,.int .u64 0,.string ⟨#[]⟩,.string ⟨#[]⟩,.int .u64 0,.int .u64 0]
 obtain ⟨n1,hn1⟩:∃ n,n=P.num 1:=⟨_,rfl⟩
 have hl1:n1 < 256:=by rw [hn1];exact num1_lt hB0
 obtain ⟨p1,hp1⟩:∃ x,x=P.skip 1:=⟨_,rfl⟩
 have hB1:Bytes p1.zs:=by rw [hp1];exact skip_bytes hB0 1
 have k1:=fun w=>rdP_number p D P 1 (by omega) (by omega) w
 rw [← hn1,← hp1] at k1
 obtain ⟨n2,hn2⟩:∃ n,n=p1.num 1:=⟨_,rfl⟩
 have hl2:n2 < 256:=by rw [hn2];exact num1_lt hB1
 obtain ⟨p2,hp2⟩:∃ x,x=p1.skip 1:=⟨_,rfl⟩
 have hB2:Bytes p2.zs:=by rw [hp2];exact skip_bytes hB1 1
 have k2:=fun w=>rdP_number p D p1 1 (by omega) (by omega) w
 rw [← hn2,← hp2] at k2
 obtain ⟨n3,hn3⟩:∃ n,n=p2.num 4:=⟨_,rfl⟩
 have hl3:n3 < 4294967296:=by rw [hn3];exact num4_lt hB2
 obtain ⟨p3,hp3⟩:∃ x,x=p2.skip 4:=⟨_,rfl⟩
 have hB3:Bytes p3.zs:=by rw [hp3];exact skip_bytes hB2 4
 have k3:=fun w=>rdP_number p D p2 4 (by omega) (by omega) w
 rw [← hn3,← hp3] at k3
 have e1:first P=⟨n1,n2,n3,0,0,0,0,0,0,0,nothing,nothing,0,0⟩:=by
  subst hp1 hp2 hp3
  unfold first
  simp only
  rw [if_neg (by omega),if_neg (by omega),if_neg (by omega),if_neg (by omega),if_neg (by omega)]
  rw [hn1,hn2,hn3]
  skip
 have e2:behind P=p3:=by
  subst hp1 hp2 hp3
  unfold behind
  simp only
  rw [if_neg (by omega),if_neg (by omega),if_neg (by omega),if_neg (by omega),if_neg (by omega)]
 rw [← hn1] at hk
 have d1:((n1:Int) == 1)=false:=beq_eq_false_iff_ne.2 (by omega)
 have d3:((n1:Int) == 3)=false:=beq_eq_false_iff_ne.2 (by omega)
 have d4:((n1:Int) == 4)=false:=beq_eq_false_iff_ne.2 (by omega)
 have d5:((n1:Int) == 5)=false:=beq_eq_false_iff_ne.2 (by omega)
 have d6:((n1:Int) == 6)=false:=beq_eq_false_iff_ne.2 (by omega)
 clear hk
 rw [e1,e2]
 clear e1 e2 hn1 hn2 hn3 hB0 hB1 hB2 hB3 hp1 hp2 hp3
 clear h
 simp only [rv,cells,nothing]
 go_enter Tryz.func113,Tryz.ntmps113
 go_wp2_with fail
 refine (k1 _ hs0.rd).mono ?_
 rintro e w1 ⟨rfl,hr,hb⟩
 have hr1:=hs0.read hS hr hb
 clear hr hb hs0 k1
 have c0:w1.cell? ⟨w.heap.size+1,0,none⟩=some (.int .i64 0):=hr1.cell 0 rfl
 have f0:w1.frozen? ⟨w.heap.size+1,0,none⟩=false:=hr1.frozen 0
 have hs1:=hr1.set fr 0 (.int .i64 (n1:Int)) (cs' := #[.int .i64 (n1:Int),.int .i64 0,.int .u32 0,.int .i64 0,.int .i64 0,.int .i64 0,.int .u64 0,.int .u32 0,.int .i64 0,.int .u64 0,.string ⟨#[]⟩,.string ⟨#[]⟩,.int .u64 0,.int .u64 0]) rfl
 clear hr1
 go_wp2_with fail
 refine (k2 _ hs1.rd).mono ?_
 rintro e w2 ⟨rfl,hr,hb⟩
 have hr2:=hs1.read hS hr hb
 clear hr hb hs1 k2
 have c1:w2.cell? ⟨w.heap.size+1,1,none⟩=some (.int .i64 0):=hr2.cell 1 rfl
 have f1:w2.frozen? ⟨w.heap.size+1,1,none⟩=false:=hr2.frozen 1
 have hs2:=hr2.set fr 1 (.int .i64 (n2:Int)) (cs' := #[.int .i64 (n1:Int),.int .i64 (n2:Int),.int .u32 0,.int .i64 0,.int .i64 0,.int .i64 0,.int .u64 0,.int .u32 0,.int .i64 0,.int .u64 0,.string ⟨#[]⟩,.string ⟨#[]⟩,.int .u64 0,.int .u64 0]) rfl
 clear hr2
 go_wp2_with fail
 refine (k3 _ hs2.rd).mono ?_
 rintro e w3 ⟨rfl,hr,hb⟩
 have hr3:=hs2.read hS hr hb
 clear hr hb hs2 k3
 have c2:w3.cell? ⟨w.heap.size+1,2,none⟩=some (.int .u32 0):=hr3.cell 2 rfl
 have f2:w3.frozen? ⟨w.heap.size+1,2,none⟩=false:=hr3.frozen 2
 have c0:w3.cell? ⟨w.heap.size+1,0,none⟩=some (.int .i64 (n1:Int)):=hr3.cell 0 rfl
 have hs3:=hr3.set fr 2 (.int .u32 (n3:Int)) (cs' := #[.int .i64 (n1:Int),.int .i64 (n2:Int),.int .u32 (n3:Int),.int .i64 0,.int .i64 0,.int .i64 0,.int .u64 0,.int .u32 0,.int .i64 0,.int .u64 0,.string ⟨#[]⟩,.string ⟨#[]⟩,.int .u64 0,.int .u64 0]) rfl
 clear hr3
 have HBX:=Lib.hid (show _=_ from hs3.box)
 have HRX:=Lib.hid (show _=_ from hs3.res)
 obtain ⟨hl1,hl2⟩:=hs3.last fr #[.int .i64 (n1:Int),.int .i64 (n2:Int),.int .u32 (n3:Int),.int .i64 0,.int .i64 0,.int .i64 0,.int .u64 0,.int .u32 0,.int .i64 0,.int .u64 0,.string ⟨#[]⟩,.string ⟨#[]⟩,.int .u64 0,.int .u64 0]
 clear hs3
 have hone:(#[.int .i64 (n1:Int),.int .i64 (n2:Int),.int .u32 (n3:Int),.int .i64 0,.int .i64 0,.int .i64 0,.int .u64 0,.int .u32 0,.int .i64 0,.int .u64 0,.string ⟨#[]⟩,.string ⟨#[]⟩,.int .u64 0,.int .u64 0]:Array Value).all (fun x=>x.oneCell')=true:=by simp [Value.oneCell']
 have HONE:=Lib.hid hone
 clear hone
 have HOLD:=Lib.hid (show (#[.int .i64 0,.int .i64 0,.int .u32 0,.int .i64 0,.int .i64 0,.int .i64 0,.int .u64 0,.int .u32 0,.int .i64 0,.int .u64 0,.string ⟨#[]⟩,.string ⟨#[]⟩,.int .u64 0,.int .u64 0]:Array Value).size=(#[.int .i64 (n1:Int),.int .i64 (n2:Int),.int .u32 (n3:Int),.int .i64 0,.int .i64 0,.int .i64 0,.int .u64 0,.int .u32 0,.int .i64 0,.int .u64 0,.string ⟨#[]⟩,.string ⟨#[]⟩,.int .u64 0,.int .u64 0]:Array Value).size by simp)
 have HSZ:=Lib.hid (rec_size.trans (show some 14=some (#[.int .i64 (n1:Int),.int .i64 (n2:Int),.int .u32 (n3:Int),.int .i64 0,.int .i64 0,.int .i64 0,.int .u64 0,.int .u32 0,.int .i64 0,.int .u64 0,.string ⟨#[]⟩,.string ⟨#[]⟩,.int .u64 0,.int .u64 0]:Array Value).size by simp))
 go_wp2_with (first
  | (refine wpList_load_row rfl 79 _ rfl (w.heap.size+1) rfl 79 _ (0,0) _ HBX.out Tryz.underlying79 rfl HSZ.out ?_)
  | (refine wpList_store_rowTo rfl 79 _ _ rfl rfl w.heap.size #[.int .i64 (n1:Int),.int .i64 (n2:Int),.int .u32 (n3:Int),.int .i64 0,.int .i64 0,.int .i64 0,.int .u64 0,.int .u32 0,.int .i64 0,.int .u64 0,.string ⟨#[]⟩,.string ⟨#[]⟩,.int .u64 0,.int .u64 0] rfl rfl 79 #[.int .i64 0,.int .i64 0,.int .u32 0,.int .i64 0,.int .i64 0,.int .i64 0,.int .u64 0,.int .u32 0,.int .i64 0,.int .u64 0,.string ⟨#[]⟩,.string ⟨#[]⟩,.int .u64 0,.int .u64 0] HRX.out HSZ.out HOLD.out HONE.out ?_))
 refine bodyPost_ret (results_cell_row rfl _ _ w.heap.size 79 #[.int .i64 (n1:Int),.int .i64 (n2:Int),.int .u32 (n3:Int),.int .i64 0,.int .i64 0,.int .i64 0,.int .u64 0,.int .u32 0,.int .i64 0,.int .u64 0,.string ⟨#[]⟩,.string ⟨#[]⟩,.int .u64 0,.int .u64 0] (0,0) _ rfl (setRow_heap _ _ _ _ _ _ HRX.out) Tryz.underlying79 rfl HSZ.out) rfl ?_
 refine ⟨?_,hl1,hl2⟩
 rfl
theorem next_1 (p D:Nat) (P:Pos) (hB0:Bytes P.zs) (hk:P.num 1=1) (w:World) (h:RdP p D w P) (hp:p < w.heap.size) (hD:D < w.heap.size):Calls Tryz.prog 113 #[.pointer (some ⟨p,0,none⟩)] w fun e w' =>
  e = .returned (rv (first P))∧RdP p D w' (behind P)∧But (fun b=>b=p) w w':=by
 have hS:∀ k,k=p→k < w.heap.size:=fun k e=>e ▸ hp
 have fr:=rdP_keeps hp hD
 have hs0:=Rdg.start (S:=fun b=>b=p) (t:=79) fr h #[.int .i64 0,.int .i64 0,.int .u32 0,.int .i64 0,.int .i64 0,.int .i64 0,.int .u64 0,.int .u32 0,.int .i64 0,.int .u64 0,.string ⟨#[]⟩,.string ⟨#[]⟩,.int .u64 0,.int .u64 0]
 obtain ⟨n1,hn1⟩:∃ n,n=P.num 1:=⟨_,rfl⟩
 have hl1:n1 < 256:=by rw [hn1];exact num1_lt hB0
 obtain ⟨p1,hp1⟩:∃ x,x=P.skip 1:=⟨_,rfl⟩
 have hB1:Bytes p1.zs:=by rw [hp1];exact skip_bytes hB0 1
 have k1:=fun w=>rdP_number p D P 1 (by omega) (by omega) w
 rw [← hn1,← hp1] at k1
 obtain ⟨n2,hn2⟩:∃ n,n=p1.num 1:=⟨_,rfl⟩
 have hl2:n2 < 256:=by rw [hn2];exact num1_lt hB1
 obtain ⟨p2,hp2⟩:∃ x,x=p1.skip 1:=⟨_,rfl⟩
 have hB2:Bytes p2.zs:=by rw [hp2];exact skip_bytes hB1 1
 have k2:=fun w=>rdP_number p D p1 1 (by omega) (by omega) w
 rw [← hn2,← hp2] at k2
 obtain ⟨n3,hn3⟩:∃ n,n=p2.num 4:=⟨_,rfl⟩
 have hl3:n3 < 4294967296:=by rw [hn3];exact num4_lt hB2
 obtain ⟨p3,hp3⟩:∃ x,x=p2.skip 4:=⟨_,rfl⟩
 have hB3:Bytes p3.zs:=by rw [hp3];exact skip_bytes hB2 4
 have k3:=fun w=>rdP_number p D p2 4 (by omega) (by omega) w
 rw [← hn3,← hp3] at k3
 obtain ⟨n4a,hn4a⟩:∃ n,n=p3.num 8:=⟨_,rfl⟩
 obtain ⟨n4b,hn4b⟩:∃ n,n=(p3.skip 8).num 8:=⟨_,rfl⟩
 obtain ⟨n4c,hn4c⟩:∃ n,n=((p3.skip 8).skip 8).num 8:=⟨_,rfl⟩
 obtain ⟨p4,hp4⟩:∃ x,x=((p3.skip 8).skip 8).skip 8:=⟨_,rfl⟩
 have hB4:Bytes p4.zs:=by rw [hp4];exact skip_bytes (skip_bytes (skip_bytes hB3 8) 8) 8
 have k4:=fun w h hp hd=>nextQuota_any p D p3 hB3 w h hp hd
 rw [← hn4a,← hn4b,← hn4c,← hp4] at k4
 obtain ⟨n5,hn5⟩:∃ n,n=p4.num 8:=⟨_,rfl⟩
 have hl5:n5 < 18446744073709551616:=by rw [hn5];exact num8_lt hB4
 obtain ⟨p5,hp5⟩:∃ x,x=p4.skip 8:=⟨_,rfl⟩
 have hB5:Bytes p5.zs:=by rw [hp5];exact skip_bytes hB4 8
 have k5:=fun w=>rdP_number p D p4 8 (by omega) (by omega) w
 rw [← hn5,← hp5] at k5
 obtain ⟨n6,hn6⟩:∃ n,n=p5.num 4:=⟨_,rfl⟩
 have hl6:n6 < 4294967296:=by rw [hn6];exact num4_lt hB5
 obtain ⟨p6,hp6⟩:∃ x,x=p5.skip 4:=⟨_,rfl⟩
 have hB6:Bytes p6.zs:=by rw [hp6];exact skip_bytes hB5 4
 have k6:=fun w=>rdP_number p D p5 4 (by omega) (by omega) w
 rw [← hn6,← hp6] at k6
 have e1:first P=⟨1,n2,n3,wrap64 (n4a:Int),wrap64 (n4b:Int),wrap64 (n4c:Int),n5,n6,0,0,nothing,nothing,0,0⟩:=by
  subst hp1 hp2 hp3 hp4 hp5 hp6
  unfold first
  simp only
  rw [if_pos hk]
  rw [hn2,hn3,hn4a,hn4b,hn4c,hn5,hn6]
  unfold sgn;rw [hk];rfl
 have e2:behind P=p6:=by
  subst hp1 hp2 hp3 hp4 hp5 hp6
  unfold behind
  simp only
  rw [if_pos hk]
 rw [← hn1] at hk
 rw [hk,show ((1:Nat):Int)=1 from rfl] at k1
 clear hk
 rw [e1,e2]
 clear e1 e2 hn1 hn2 hn3 hn4a hn4b hn4c hn5 hn6 hB0 hB1 hB2 hB3 hB4 hB5 hB6 hp1 hp2 hp3 hp4 hp5 hp6
 clear h
 simp only [rv,cells,nothing]
 go_enter Tryz.func113,Tryz.ntmps113
 go_wp2_with fail
 refine (k1 _ hs0.rd).mono ?_
 rintro e w1 ⟨rfl,hr,hb⟩
 have hr1:=hs0.read hS hr hb
 clear hr hb hs0 k1
 have c0:w1.cell? ⟨w.heap.size+1,0,none⟩=some (.int .i64 0):=hr1.cell 0 rfl
 have f0:w1.frozen? ⟨w.heap.size+1,0,none⟩=false:=hr1.frozen 0
 have hs1:=hr1.set fr 0 (.int .i64 1) (cs' := #[.int .i64 1,.int .i64 0,.int .u32 0,.int .i64 0,.int .i64 0,.int .i64 0,.int .u64 0,.int .u32 0,.int .i64 0,.int .u64 0,.string ⟨#[]⟩,.string ⟨#[]⟩,.int .u64 0,.int .u64 0]) rfl
 clear hr1
 go_wp2_with fail
 refine (k2 _ hs1.rd).mono ?_
 rintro e w2 ⟨rfl,hr,hb⟩
 have hr2:=hs1.read hS hr hb
 clear hr hb hs1 k2
 have c1:w2.cell? ⟨w.heap.size+1,1,none⟩=some (.int .i64 0):=hr2.cell 1 rfl
 have f1:w2.frozen? ⟨w.heap.size+1,1,none⟩=false:=hr2.frozen 1
 have hs2:=hr2.set fr 1 (.int .i64 (n2:Int)) (cs' := #[.int .i64 1,.int .i64 (n2:Int),.int .u32 0,.int .i64 0,.int .i64 0,.int .i64 0,.int .u64 0,.int .u32 0,.int .i64 0,.int .u64 0,.string ⟨#[]⟩,.string ⟨#[]⟩,.int .u64 0,.int .u64 0]) rfl
 clear hr2
 go_wp2_with fail
 refine (k3 _ hs2.rd).mono ?_
 rintro e w3 ⟨rfl,hr,hb⟩
 have hr3:=hs2.read hS hr hb
 clear hr hb hs2 k3
 have c2:w3.cell? ⟨w.heap.size+1,2,none⟩=some (.int .u32 0):=hr3.cell 2 rfl
 have f2:w3.frozen? ⟨w.heap.size+1,2,none⟩=false:=hr3.frozen 2
 have c0:w3.cell? ⟨w.heap.size+1,0,none⟩=some (.int .i64 1):=hr3.cell 0 rfl
 have hs3:=hr3.set fr 2 (.int .u32 (n3:Int)) (cs' := #[.int .i64 1,.int .i64 (n2:Int),.int .u32 (n3:Int),.int .i64 0,.int .i64 0,.int .i64 0,.int .u64 0,.int .u32 0,.int .i64 0,.int .u64 0,.string ⟨#[]⟩,.string ⟨#[]⟩,.int .u64 0,.int .u64 0]) rfl
 clear hr3
 go_wp2_with fail
 refine (k4 _ hs3.rd (by have:=hs3.but.size;omega) (by have:=hs3.but.size;omega)).mono ?_
 rintro e w4 ⟨rfl,hr,hb⟩
 have hr4:=hs3.read hS hr hb
 clear hr hb hs3 k4
 have c3:w4.cell? ⟨w.heap.size+1,3,none⟩=some (.int .i64 0):=hr4.cell 3 rfl
 have f3:w4.frozen? ⟨w.heap.size+1,3,none⟩=false:=hr4.frozen 3
 have c4:w4.cell? ⟨w.heap.size+1,4,none⟩=some (.int .i64 0):=hr4.cell 4 rfl
 have f4:w4.frozen? ⟨w.heap.size+1,4,none⟩=false:=hr4.frozen 4
 have c5:w4.cell? ⟨w.heap.size+1,5,none⟩=some (.int .i64 0):=hr4.cell 5 rfl
 have f5:w4.frozen? ⟨w.heap.size+1,5,none⟩=false:=hr4.frozen 5
 have hq0:=hr4.set fr 3 (.int .i64 (wrap64 (n4a:Int))) (cs' := #[.int .i64 1,.int .i64 (n2:Int),.int .u32 (n3:Int),.int .i64 (wrap64 (n4a:Int)),.int .i64 0,.int .i64 0,.int .u64 0,.int .u32 0,.int .i64 0,.int .u64 0,.string ⟨#[]⟩,.string ⟨#[]⟩,.int .u64 0,.int .u64 0]) rfl
 have hq1:=hq0.set fr 4 (.int .i64 (wrap64 (n4b:Int))) (cs' := #[.int .i64 1,.int .i64 (n2:Int),.int .u32 (n3:Int),.int .i64 (wrap64 (n4a:Int)),.int .i64 (wrap64 (n4b:Int)),.int .i64 0,.int .u64 0,.int .u32 0,.int .i64 0,.int .u64 0,.string ⟨#[]⟩,.string ⟨#[]⟩,.int .u64 0,.int .u64 0]) rfl
 have hq2:=hq1.set fr 5 (.int .i64 (wrap64 (n4c:Int))) (cs' := #[.int .i64 1,.int .i64 (n2:Int),.int .u32 (n3:Int),.int .i64 (wrap64 (n4a:Int)),.int .i64 (wrap64 (n4b:Int)),.int .i64 (wrap64 (n4c:Int)),.int .u64 0,.int .u32 0,.int .i64 0,.int .u64 0,.string ⟨#[]⟩,.string ⟨#[]⟩,.int .u64 0,.int .u64 0]) rfl
 have hs4:=hq2
 clear hq0 hq1 hq2 hr4
 go_wp2_with fail
 refine (k5 _ hs4.rd).mono ?_
 rintro e w5 ⟨rfl,hr,hb⟩
 have hr5:=hs4.read hS hr hb
 clear hr hb hs4 k5
 have c6:w5.cell? ⟨w.heap.size+1,6,none⟩=some (.int .u64 0):=hr5.cell 6 rfl
 have f6:w5.frozen? ⟨w.heap.size+1,6,none⟩=false:=hr5.frozen 6
 have hs5:=hr5.set fr 6 (.int .u64 (n5:Int)) (cs' := #[.int .i64 1,.int .i64 (n2:Int),.int .u32 (n3:Int),.int .i64 (wrap64 (n4a:Int)),.int .i64 (wrap64 (n4b:Int)),.int .i64 (wrap64 (n4c:Int)),.int .u64 (n5:Int),.int .u32 0,.int .i64 0,.int .u64 0,.string ⟨#[]⟩,.string ⟨#[]⟩,.int .u64 0,.int .u64 0]) rfl
 clear hr5
 go_wp2_with fail
 refine (k6 _ hs5.rd).mono ?_
 rintro e w6 ⟨rfl,hr,hb⟩
 have hr6:=hs5.read hS hr hb
 clear hr hb hs5 k6
 have c7:w6.cell? ⟨w.heap.size+1,7,none⟩=some (.int .u32 0):=hr6.cell 7 rfl
 have f7:w6.frozen? ⟨w.heap.size+1,7,none⟩=false:=hr6.frozen 7
 have hs6:=hr6.set fr 7 (.int .u32 (n6:Int)) (cs' := #[.int .i64 1,.int .i64 (n2:Int),.int .u32 (n3:Int),.int .i64 (wrap64 (n4a:Int)),.int .i64 (wrap64 (n4b:Int)),.int .i64 (wrap64 (n4c:Int)),.int .u64 (n5:Int),.int .u32 (n6:Int),.int .i64 0,.int .u64 0,.string ⟨#[]⟩,.string ⟨#[]⟩,.int .u64 0,.int .u64 0]) rfl
 clear hr6
 have HBX:=Lib.hid (show _=_ from hs6.box)
 have HRX:=Lib.hid (show _=_ from hs6.res)
 obtain ⟨hl1,hl2⟩:=hs6.last fr #[.int .i64 1,.int .i64 (n2:Int),.int .u32 (n3:Int),.int .i64 (wrap64 (n4a:Int)),.int .i64 (wrap64 (n4b:Int)),.int .i64 (wrap64 (n4c:Int)),.int .u64 (n5:Int),.int .u32 (n6:Int),.int .i64 0,.int .u64 0,.string ⟨#[]⟩,.string ⟨#[]⟩,.int .u64 0,.int .u64 0]
 clear hs6
 have hone:(#[.int .i64 1,.int .i64 (n2:Int),.int .u32 (n3:Int),.int .i64 (wrap64 (n4a:Int)),.int .i64 (wrap64 (n4b:Int)),.int .i64 (wrap64 (n4c:Int)),.int .u64 (n5:Int),.int .u32 (n6:Int),.int .i64 0,.int .u64 0,.string ⟨#[]⟩,.string ⟨#[]⟩,.int .u64 0,.int .u64 0]:Array Value).all (fun x=>x.oneCell')=true:=by simp [Value.oneCell']
 have HONE:=Lib.hid hone
 clear hone
 have HOLD:=Lib.hid (show (#[.int .i64 0,.int .i64 0,.int .u32 0,.int .i64 0,.int .i64 0,.int .i64 0,.int .u64 0,.int .u32 0,.int .i64 0,.int .u64 0,.string ⟨#[]⟩,.string ⟨#[]⟩,.int .u64 0,.int .u64 0]:Array Value).size=(#[.int .i64 1,.int .i64 (n2:Int),.int .u32 (n3:Int),.int .i64 (wrap64 (n4a:Int)),.int .i64 (wrap64 (n4b:Int)),.int .i64 (wrap64 (n4c:Int)),.int .u64 (n5:Int),.int .u32 (n6:Int),.int .i64 0,.int .u64 0,.string ⟨#[]⟩,.string ⟨#[]⟩,.int .u64 0,.int .u64 0]:Array Value).size by simp)
 have HSZ:=Lib.hid (rec_size.trans (show some 14=some (#[.int .i64 1,.int .i64 (n2:Int),.int .u32 (n3:Int),.int .i64 (wrap64 (n4a:Int)),.int .i64 (wrap64 (n4b:Int)),.int .i64 (wrap64 (n4c:Int)),.int .u64 (n5:Int),.int .u32 (n6:Int),.int .i64 0,.int .u64 0,.string ⟨#[]⟩,.string ⟨#[]⟩,.int .u64 0,.int .u64 0]:Array Value).size by simp))
 go_wp2_with (first
  | (refine wpList_load_row rfl 79 _ rfl (w.heap.size+1) rfl 79 _ (0,0) _ HBX.out Tryz.underlying79 rfl HSZ.out ?_)
  | (refine wpList_store_rowTo rfl 79 _ _ rfl rfl w.heap.size #[.int .i64 1,.int .i64 (n2:Int),.int .u32 (n3:Int),.int .i64 (wrap64 (n4a:Int)),.int .i64 (wrap64 (n4b:Int)),.int .i64 (wrap64 (n4c:Int)),.int .u64 (n5:Int),.int .u32 (n6:Int),.int .i64 0,.int .u64 0,.string ⟨#[]⟩,.string ⟨#[]⟩,.int .u64 0,.int .u64 0] rfl rfl 79 #[.int .i64 0,.int .i64 0,.int .u32 0,.int .i64 0,.int .i64 0,.int .i64 0,.int .u64 0,.int .u32 0,.int .i64 0,.int .u64 0,.string ⟨#[]⟩,.string ⟨#[]⟩,.int .u64 0,.int .u64 0] HRX.out HSZ.out HOLD.out HONE.out ?_))
 refine bodyPost_ret (results_cell_row rfl _ _ w.heap.size 79 #[.int .i64 1,.int .i64 (n2:Int),.int .u32 (n3:Int),.int .i64 (wrap64 (n4a:Int)),.int .i64 (wrap64 (n4b:Int)),.int .i64 (wrap64 (n4c:Int)),.int .u64 (n5:Int),.int .u32 (n6:Int),.int .i64 0,.int .u64 0,.string ⟨#[]⟩,.string ⟨#[]⟩,.int .u64 0,.int .u64 0] (0,0) _ rfl (setRow_heap _ _ _ _ _ _ HRX.out) Tryz.underlying79 rfl HSZ.out) rfl ?_
 refine ⟨?_,hl1,hl2⟩
 rfl
theorem next_3 (p D:Nat) (P:Pos) (hB0:Bytes P.zs) (hk:P.num 1=3) (w:World) (h:RdP p D w P) (hp:p < w.heap.size) (hD:D < w.heap.size):Calls Tryz.prog 113 #[.pointer (some ⟨p,0,none⟩)] w fun e w' =>
  e = .returned (rv (first P))∧RdP p D w' (behind P)∧But (fun b=>b=p) w w':=by
 have hS:∀ k,k=p→k < w.heap.size:=fun k e=>e ▸ hp
 have fr:=rdP_keeps hp hD
 have hs0:=Rdg.start (S:=fun b=>b=p) (t:=79) fr h #[.int .i64 0,.int .i64 0,.int .u32 0,.int .i64 0,.int .i64 0,.int .i64 0,.int .u64 0,.int .u32 0,.int .i64 0,.int .u64 0,.string ⟨#[]⟩,.string ⟨#[]⟩,.int .u64 0,.int .u64 0]
 obtain ⟨n1,hn1⟩:∃ n,n=P.num 1:=⟨_,rfl⟩
 have hl1:n1 < 256:=by rw [hn1];exact num1_lt hB0
 obtain ⟨p1,hp1⟩:∃ x,x=P.skip 1:=⟨_,rfl⟩
 have hB1:Bytes p1.zs:=by rw [hp1];exact skip_bytes hB0 1
 have k1:=fun w=>rdP_number p D P 1 (by omega) (by omega) w
 rw [← hn1,← hp1] at k1
 obtain ⟨n2,hn2⟩:∃ n,n=p1.num 1:=⟨_,rfl⟩
 have hl2:n2 < 256:=by rw [hn2];exact num1_lt hB1
 obtain ⟨p2,hp2⟩:∃ x,x=p1.skip 1:=⟨_,rfl⟩
 have hB2:Bytes p2.zs:=by rw [hp2];exact skip_bytes hB1 1
 have k2:=fun w=>rdP_number p D p1 1 (by omega) (by omega) w
 rw [← hn2,← hp2] at k2
 obtain ⟨n3,hn3⟩:∃ n,n=p2.num 4:=⟨_,rfl⟩
 have hl3:n3 < 4294967296:=by rw [hn3];exact num4_lt hB2
 obtain ⟨p3,hp3⟩:∃ x,x=p2.skip 4:=⟨_,rfl⟩
 have hB3:Bytes p3.zs:=by rw [hp3];exact skip_bytes hB2 4
 have k3:=fun w=>rdP_number p D p2 4 (by omega) (by omega) w
 rw [← hn3,← hp3] at k3
 obtain ⟨n4,hn4⟩:∃ n,n=p3.num 8:=⟨_,rfl⟩
 have hl4:n4 < 18446744073709551616:=by rw [hn4];exact num8_lt hB3
 obtain ⟨p4,hp4⟩:∃ x,x=p3.skip 8:=⟨_,rfl⟩
 have hB4:Bytes p4.zs:=by rw [hp4];exact skip_bytes hB3 8
 have k4:=fun w=>rdP_number p D p3 8 (by omega) (by omega) w
 rw [← hn4,← hp4] at k4
 obtain ⟨n5,hn5⟩:∃ n,n=p4.num 8:=⟨_,rfl⟩
 have hl5:n5 < 18446744073709551616:=by rw [hn5];exact num8_lt hB4
 obtain ⟨p5,hp5⟩:∃ x,x=p4.skip 8:=⟨_,rfl⟩
 have hB5:Bytes p5.zs:=by rw [hp5];exact skip_bytes hB4 8
 have k5:=fun w=>rdP_number p D p4 8 (by omega) (by omega) w
 rw [← hn5,← hp5] at k5
 obtain ⟨n6,hn6⟩:∃ n,n=p5.txt:=⟨_,rfl⟩
 obtain ⟨p6,hp6⟩:∃ x,x=p5.past:=⟨_,rfl⟩
 have hB6:Bytes p6.zs:=by rw [hp6];exact past_bytes hB5
 have k6:=fun w=>rdP_text p D p5 w
 rw [← hn6,← hp6] at k6
 obtain ⟨n7,hn7⟩:∃ n,n=p6.txt:=⟨_,rfl⟩
 obtain ⟨p7,hp7⟩:∃ x,x=p6.past:=⟨_,rfl⟩
 have hB7:Bytes p7.zs:=by rw [hp7];exact past_bytes hB6
 have k7:=fun w=>rdP_text p D p6 w
 rw [← hn7,← hp7] at k7
 have e1:first P=⟨3,n2,n3,0,0,0,0,0,0,0,n6,n7,n4,n5⟩:=by
  subst hp1 hp2 hp3 hp4 hp5 hp6 hp7
  unfold first
  simp only
  rw [if_neg (by omega),if_pos hk]
  rw [hn2,hn3,hn4,hn5,hn6,hn7]
  rw [hk];rfl
 have e2:behind P=p7:=by
  subst hp1 hp2 hp3 hp4 hp5 hp6 hp7
  unfold behind
  simp only
  rw [if_neg (by omega),if_pos hk]
 rw [← hn1] at hk
 rw [hk,show ((3:Nat):Int)=3 from rfl] at k1
 clear hk
 rw [e1,e2]
 clear e1 e2 hn1 hn2 hn3 hn4 hn5 hn6 hn7 hB0 hB1 hB2 hB3 hB4 hB5 hB6 hB7 hp1 hp2 hp3 hp4 hp5 hp6 hp7
 clear h
 simp only [rv,cells,nothing]
 go_enter Tryz.func113,Tryz.ntmps113
 go_wp2_with fail
 refine (k1 _ hs0.rd).mono ?_
 rintro e w1 ⟨rfl,hr,hb⟩
 have hr1:=hs0.read hS hr hb
 clear hr hb hs0 k1
 have c0:w1.cell? ⟨w.heap.size+1,0,none⟩=some (.int .i64 0):=hr1.cell 0 rfl
 have f0:w1.frozen? ⟨w.heap.size+1,0,none⟩=false:=hr1.frozen 0
 have hs1:=hr1.set fr 0 (.int .i64 3) (cs' := #[.int .i64 3,.int .i64 0,.int .u32 0,.int .i64 0,.int .i64 0,.int .i64 0,.int .u64 0,.int .u32 0,.int .i64 0,.int .u64 0,.string ⟨#[]⟩,.string ⟨#[]⟩,.int .u64 0,.int .u64 0]) rfl
 clear hr1
 go_wp2_with fail
 refine (k2 _ hs1.rd).mono ?_
 rintro e w2 ⟨rfl,hr,hb⟩
 have hr2:=hs1.read hS hr hb
 clear hr hb hs1 k2
 have c1:w2.cell? ⟨w.heap.size+1,1,none⟩=some (.int .i64 0):=hr2.cell 1 rfl
 have f1:w2.frozen? ⟨w.heap.size+1,1,none⟩=false:=hr2.frozen 1
 have hs2:=hr2.set fr 1 (.int .i64 (n2:Int)) (cs' := #[.int .i64 3,.int .i64 (n2:Int),.int .u32 0,.int .i64 0,.int .i64 0,.int .i64 0,.int .u64 0,.int .u32 0,.int .i64 0,.int .u64 0,.string ⟨#[]⟩,.string ⟨#[]⟩,.int .u64 0,.int .u64 0]) rfl
 clear hr2
 go_wp2_with fail
 refine (k3 _ hs2.rd).mono ?_
 rintro e w3 ⟨rfl,hr,hb⟩
 have hr3:=hs2.read hS hr hb
 clear hr hb hs2 k3
 have c2:w3.cell? ⟨w.heap.size+1,2,none⟩=some (.int .u32 0):=hr3.cell 2 rfl
 have f2:w3.frozen? ⟨w.heap.size+1,2,none⟩=false:=hr3.frozen 2
 have c0:w3.cell? ⟨w.heap.size+1,0,none⟩=some (.int .i64 3):=hr3.cell 0 rfl
 have hs3:=hr3.set fr 2 (.int .u32 (n3:Int)) (cs' := #[.int .i64 3,.int .i64 (n2:Int),.int .u32 (n3:Int),.int .i64 0,.int .i64 0,.int .i64 0,.int .u64 0,.int .u32 0,.int .i64 0,.int .u64 0,.string ⟨#[]⟩,.string ⟨#[]⟩,.int .u64 0,.int .u64 0]) rfl
 clear hr3
 go_wp2_with fail
 refine (k4 _ hs3.rd).mono ?_
 rintro e w4 ⟨rfl,hr,hb⟩
 have hr4:=hs3.read hS hr hb
 clear hr hb hs3 k4
 have c12:w4.cell? ⟨w.heap.size+1,12,none⟩=some (.int .u64 0):=hr4.cell 12 rfl
 have f12:w4.frozen? ⟨w.heap.size+1,12,none⟩=false:=hr4.frozen 12
 have hs4:=hr4.set fr 12 (.int .u64 (n4:Int)) (cs' := #[.int .i64 3,.int .i64 (n2:Int),.int .u32 (n3:Int),.int .i64 0,.int .i64 0,.int .i64 0,.int .u64 0,.int .u32 0,.int .i64 0,.int .u64 0,.string ⟨#[]⟩,.string ⟨#[]⟩,.int .u64 (n4:Int),.int .u64 0]) rfl
 clear hr4
 go_wp2_with fail
 refine (k5 _ hs4.rd).mono ?_
 rintro e w5 ⟨rfl,hr,hb⟩
 have hr5:=hs4.read hS hr hb
 clear hr hb hs4 k5
 have c13:w5.cell? ⟨w.heap.size+1,13,none⟩=some (.int .u64 0):=hr5.cell 13 rfl
 have f13:w5.frozen? ⟨w.heap.size+1,13,none⟩=false:=hr5.frozen 13
 have hs5:=hr5.set fr 13 (.int .u64 (n5:Int)) (cs' := #[.int .i64 3,.int .i64 (n2:Int),.int .u32 (n3:Int),.int .i64 0,.int .i64 0,.int .i64 0,.int .u64 0,.int .u32 0,.int .i64 0,.int .u64 0,.string ⟨#[]⟩,.string ⟨#[]⟩,.int .u64 (n4:Int),.int .u64 (n5:Int)]) rfl
 clear hr5
 go_wp2_with fail
 refine (k6 _ hs5.rd).mono ?_
 rintro e w6 ⟨rfl,hr,hb⟩
 have hr6:=hs5.read hS hr hb
 clear hr hb hs5 k6
 have c10:w6.cell? ⟨w.heap.size+1,10,none⟩=some (.string ⟨#[]⟩):=hr6.cell 10 rfl
 have f10:w6.frozen? ⟨w.heap.size+1,10,none⟩=false:=hr6.frozen 10
 have hs6:=hr6.set fr 10 (.string n6) (cs' := #[.int .i64 3,.int .i64 (n2:Int),.int .u32 (n3:Int),.int .i64 0,.int .i64 0,.int .i64 0,.int .u64 0,.int .u32 0,.int .i64 0,.int .u64 0,.string n6,.string ⟨#[]⟩,.int .u64 (n4:Int),.int .u64 (n5:Int)]) rfl
 clear hr6
 go_wp2_with fail
 refine (k7 _ hs6.rd).mono ?_
 rintro e w7 ⟨rfl,hr,hb⟩
 have hr7:=hs6.read hS hr hb
 clear hr hb hs6 k7
 have c11:w7.cell? ⟨w.heap.size+1,11,none⟩=some (.string ⟨#[]⟩):=hr7.cell 11 rfl
 have f11:w7.frozen? ⟨w.heap.size+1,11,none⟩=false:=hr7.frozen 11
 have hs7:=hr7.set fr 11 (.string n7) (cs' := #[.int .i64 3,.int .i64 (n2:Int),.int .u32 (n3:Int),.int .i64 0,.int .i64 0,.int .i64 0,.int .u64 0,.int .u32 0,.int .i64 0,.int .u64 0,.string n6,.string n7,.int .u64 (n4:Int),.int .u64 (n5:Int)]) rfl
 clear hr7
 have HBX:=Lib.hid (show _=_ from hs7.box)
 have HRX:=Lib.hid (show _=_ from hs7.res)
 obtain ⟨hl1,hl2⟩:=hs7.last fr #[.int .i64 3,.int .i64 (n2:Int),.int .u32 (n3:Int),.int .i64 0,.int .i64 0,.int .i64 0,.int .u64 0,.int .u32 0,.int .i64 0,.int .u64 0,.string n6,.string n7,.int .u64 (n4:Int),.int .u64 (n5:Int)]
 clear hs7
 have hone:(#[.int .i64 3,.int .i64 (n2:Int),.int .u32 (n3:Int),.int .i64 0,.int .i64 0,.int .i64 0,.int .u64 0,.int .u32 0,.int .i64 0,.int .u64 0,.string n6,.string n7,.int .u64 (n4:Int),.int .u64 (n5:Int)]:Array Value).all (fun x=>x.oneCell')=true:=by simp [Value.oneCell']
 have HONE:=Lib.hid hone
 clear hone
 have HOLD:=Lib.hid (show (#[.int .i64 0,.int .i64 0,.int .u32 0,.int .i64 0,.int .i64 0,.int .i64 0,.int .u64 0,.int .u32 0,.int .i64 0,.int .u64 0,.string ⟨#[]⟩,.string ⟨#[]⟩,.int .u64 0,.int .u64 0]:Array Value).size=(#[.int .i64 3,.int .i64 (n2:Int),.int .u32 (n3:Int),.int .i64 0,.int .i64 0,.int .i64 0,.int .u64 0,.int .u32 0,.int .i64 0,.int .u64 0,.string n6,.string n7,.int .u64 (n4:Int),.int .u64 (n5:Int)]:Array Value).size by simp)
 have HSZ:=Lib.hid (rec_size.trans (show some 14=some (#[.int .i64 3,.int .i64 (n2:Int),.int .u32 (n3:Int),.int .i64 0,.int .i64 0,.int .i64 0,.int .u64 0,.int .u32 0,.int .i64 0,.int .u64 0,.string n6,.string n7,.int .u64 (n4:Int),.int .u64 (n5:Int)]:Array Value).size by simp))
 go_wp2_with (first
  | (refine wpList_load_row rfl 79 _ rfl (w.heap.size+1) rfl 79 _ (0,0) _ HBX.out Tryz.underlying79 rfl HSZ.out ?_)
  | (refine wpList_store_rowTo rfl 79 _ _ rfl rfl w.heap.size #[.int .i64 3,.int .i64 (n2:Int),.int .u32 (n3:Int),.int .i64 0,.int .i64 0,.int .i64 0,.int .u64 0,.int .u32 0,.int .i64 0,.int .u64 0,.string n6,.string n7,.int .u64 (n4:Int),.int .u64 (n5:Int)] rfl rfl 79 #[.int .i64 0,.int .i64 0,.int .u32 0,.int .i64 0,.int .i64 0,.int .i64 0,.int .u64 0,.int .u32 0,.int .i64 0,.int .u64 0,.string ⟨#[]⟩,.string ⟨#[]⟩,.int .u64 0,.int .u64 0] HRX.out HSZ.out HOLD.out HONE.out ?_))
 refine bodyPost_ret (results_cell_row rfl _ _ w.heap.size 79 #[.int .i64 3,.int .i64 (n2:Int),.int .u32 (n3:Int),.int .i64 0,.int .i64 0,.int .i64 0,.int .u64 0,.int .u32 0,.int .i64 0,.int .u64 0,.string n6,.string n7,.int .u64 (n4:Int),.int .u64 (n5:Int)] (0,0) _ rfl (setRow_heap _ _ _ _ _ _ HRX.out) Tryz.underlying79 rfl HSZ.out) rfl ?_
 refine ⟨?_,hl1,hl2⟩
 rfl
theorem next_4 (p D:Nat) (P:Pos) (hB0:Bytes P.zs) (hk:P.num 1=4) (w:World) (h:RdP p D w P) (hp:p < w.heap.size) (hD:D < w.heap.size):Calls Tryz.prog 113 #[.pointer (some ⟨p,0,none⟩)] w fun e w' =>
  e = .returned (rv (first P))∧RdP p D w' (behind P)∧But (fun b=>b=p) w w':=by
 have hS:∀ k,k=p→k < w.heap.size:=fun k e=>e ▸ hp
 have fr:=rdP_keeps hp hD
 have hs0:=Rdg.start (S:=fun b=>b=p) (t:=79) fr h #[.int .i64 0,.int .i64 0,.int .u32 0,.int .i64 0,.int .i64 0,.int .i64 0,.int .u64 0,.int .u32 0,.int .i64 0,.int .u64 0,.string ⟨#[]⟩,.string ⟨#[]⟩,.int .u64 0,.int .u64 0]
 obtain ⟨n1,hn1⟩:∃ n,n=P.num 1:=⟨_,rfl⟩
 have hl1:n1 < 256:=by rw [hn1];exact num1_lt hB0
 obtain ⟨p1,hp1⟩:∃ x,x=P.skip 1:=⟨_,rfl⟩
 have hB1:Bytes p1.zs:=by rw [hp1];exact skip_bytes hB0 1
 have k1:=fun w=>rdP_number p D P 1 (by omega) (by omega) w
 rw [← hn1,← hp1] at k1
 obtain ⟨n2,hn2⟩:∃ n,n=p1.num 1:=⟨_,rfl⟩
 have hl2:n2 < 256:=by rw [hn2];exact num1_lt hB1
 obtain ⟨p2,hp2⟩:∃ x,x=p1.skip 1:=⟨_,rfl⟩
 have hB2:Bytes p2.zs:=by rw [hp2];exact skip_bytes hB1 1
 have k2:=fun w=>rdP_number p D p1 1 (by omega) (by omega) w
 rw [← hn2,← hp2] at k2
 obtain ⟨n3,hn3⟩:∃ n,n=p2.num 4:=⟨_,rfl⟩
 have hl3:n3 < 4294967296:=by rw [hn3];exact num4_lt hB2
 obtain ⟨p3,hp3⟩:∃ x,x=p2.skip 4:=⟨_,rfl⟩
 have hB3:Bytes p3.zs:=by rw [hp3];exact skip_bytes hB2 4
 have k3:=fun w=>rdP_number p D p2 4 (by omega) (by omega) w
 rw [← hn3,← hp3] at k3
 obtain ⟨n4,hn4⟩:∃ n,n=p3.num 8:=⟨_,rfl⟩
 have hl4:n4 < 18446744073709551616:=by rw [hn4];exact num8_lt hB3
 obtain ⟨p4,hp4⟩:∃ x,x=p3.skip 8:=⟨_,rfl⟩
 have hB4:Bytes p4.zs:=by rw [hp4];exact skip_bytes hB3 8
 have k4:=fun w=>rdP_number p D p3 8 (by omega) (by omega) w
 rw [← hn4,← hp4] at k4
 obtain ⟨n5,hn5⟩:∃ n,n=p4.txt:=⟨_,rfl⟩
 obtain ⟨p5,hp5⟩:∃ x,x=p4.past:=⟨_,rfl⟩
 have hB5:Bytes p5.zs:=by rw [hp5];exact past_bytes hB4
 have k5:=fun w=>rdP_text p D p4 w
 rw [← hn5,← hp5] at k5
 have e1:first P=⟨4,n2,n3,0,0,0,0,0,0,0,n5,nothing,n4,0⟩:=by
  subst hp1 hp2 hp3 hp4 hp5
  unfold first
  simp only
  rw [if_neg (by omega),if_neg (by omega),if_pos hk]
  rw [hn2,hn3,hn4,hn5]
  rw [hk];rfl
 have e2:behind P=p5:=by
  subst hp1 hp2 hp3 hp4 hp5
  unfold behind
  simp only
  rw [if_neg (by omega),if_neg (by omega),if_pos hk]
 rw [← hn1] at hk
 rw [hk,show ((4:Nat):Int)=4 from rfl] at k1
 clear hk
 rw [e1,e2]
 clear e1 e2 hn1 hn2 hn3 hn4 hn5 hB0 hB1 hB2 hB3 hB4 hB5 hp1 hp2 hp3 hp4 hp5
 clear h
 simp only [rv,cells,nothing]
 go_enter Tryz.func113,Tryz.ntmps113
 go_wp2_with fail
 refine (k1 _ hs0.rd).mono ?_
 rintro e w1 ⟨rfl,hr,hb⟩
 have hr1:=hs0.read hS hr hb
 clear hr hb hs0 k1
 have c0:w1.cell? ⟨w.heap.size+1,0,none⟩=some (.int .i64 0):=hr1.cell 0 rfl
 have f0:w1.frozen? ⟨w.heap.size+1,0,none⟩=false:=hr1.frozen 0
 have hs1:=hr1.set fr 0 (.int .i64 4) (cs' := #[.int .i64 4,.int .i64 0,.int .u32 0,.int .i64 0,.int .i64 0,.int .i64 0,.int .u64 0,.int .u32 0,.int .i64 0,.int .u64 0,.string ⟨#[]⟩,.string ⟨#[]⟩,.int .u64 0,.int .u64 0]) rfl
 clear hr1
 go_wp2_with fail
 refine (k2 _ hs1.rd).mono ?_
 rintro e w2 ⟨rfl,hr,hb⟩
 have hr2:=hs1.read hS hr hb
 clear hr hb hs1 k2
 have c1:w2.cell? ⟨w.heap.size+1,1,none⟩=some (.int .i64 0):=hr2.cell 1 rfl
 have f1:w2.frozen? ⟨w.heap.size+1,1,none⟩=false:=hr2.frozen 1
 have hs2:=hr2.set fr 1 (.int .i64 (n2:Int)) (cs' := #[.int .i64 4,.int .i64 (n2:Int),.int .u32 0,.int .i64 0,.int .i64 0,.int .i64 0,.int .u64 0,.int .u32 0,.int .i64 0,.int .u64 0,.string ⟨#[]⟩,.string ⟨#[]⟩,.int .u64 0,.int .u64 0]) rfl
 clear hr2
 go_wp2_with fail
 refine (k3 _ hs2.rd).mono ?_
 rintro e w3 ⟨rfl,hr,hb⟩
 have hr3:=hs2.read hS hr hb
 clear hr hb hs2 k3
 have c2:w3.cell? ⟨w.heap.size+1,2,none⟩=some (.int .u32 0):=hr3.cell 2 rfl
 have f2:w3.frozen? ⟨w.heap.size+1,2,none⟩=false:=hr3.frozen 2
 have c0:w3.cell? ⟨w.heap.size+1,0,none⟩=some (.int .i64 4):=hr3.cell 0 rfl
 have hs3:=hr3.set fr 2 (.int .u32 (n3:Int)) (cs' := #[.int .i64 4,.int .i64 (n2:Int),.int .u32 (n3:Int),.int .i64 0,.int .i64 0,.int .i64 0,.int .u64 0,.int .u32 0,.int .i64 0,.int .u64 0,.string ⟨#[]⟩,.string ⟨#[]⟩,.int .u64 0,.int .u64 0]) rfl
 clear hr3
 go_wp2_with fail
 refine (k4 _ hs3.rd).mono ?_
 rintro e w4 ⟨rfl,hr,hb⟩
 have hr4:=hs3.read hS hr hb
 clear hr hb hs3 k4
 have c12:w4.cell? ⟨w.heap.size+1,12,none⟩=some (.int .u64 0):=hr4.cell 12 rfl
 have f12:w4.frozen? ⟨w.heap.size+1,12,none⟩=false:=hr4.frozen 12
 have hs4:=hr4.set fr 12 (.int .u64 (n4:Int)) (cs' := #[.int .i64 4,.int .i64 (n2:Int),.int .u32 (n3:Int),.int .i64 0,.int .i64 0,.int .i64 0,.int .u64 0,.int .u32 0,.int .i64 0,.int .u64 0,.string ⟨#[]⟩,.string ⟨#[]⟩,.int .u64 (n4:Int),.int .u64 0]) rfl
 clear hr4
 go_wp2_with fail
 refine (k5 _ hs4.rd).mono ?_
 rintro e w5 ⟨rfl,hr,hb⟩
 have hr5:=hs4.read hS hr hb
 clear hr hb hs4 k5
 have c10:w5.cell? ⟨w.heap.size+1,10,none⟩=some (.string ⟨#[]⟩):=hr5.cell 10 rfl
 have f10:w5.frozen? ⟨w.heap.size+1,10,none⟩=false:=hr5.frozen 10
 have hs5:=hr5.set fr 10 (.string n5) (cs' := #[.int .i64 4,.int .i64 (n2:Int),.int .u32 (n3:Int),.int .i64 0,.int .i64 0,.int .i64 0,.int .u64 0,.int .u32 0,.int .i64 0,.int .u64 0,.string n5,.string ⟨#[]⟩,.int .u64 (n4:Int),.int .u64 0]) rfl
 clear hr5
 have HBX:=Lib.hid (show _=_ from hs5.box)
 have HRX:=Lib.hid (show _=_ from hs5.res)
 obtain ⟨hl1,hl2⟩:=hs5.last fr #[.int .i64 4,.int .i64 (n2:Int),.int .u32 (n3:Int),.int .i64 0,.int .i64 0,.int .i64 0,.int .u64 0,.int .u32 0,.int .i64 0,.int .u64 0,.string n5,.string ⟨#[]⟩,.int .u64 (n4:Int),.int .u64 0]
 clear hs5
 have hone:(#[.int .i64 4,.int .i64 (n2:Int),.int .u32 (n3:Int),.int .i64 0,.int .i64 0,.int .i64 0,.int .u64 0,.int .u32 0,.int .i64 0,.int .u64 0,.string n5,.string ⟨#[]⟩,.int .u64 (n4:Int),.int .u64 0]:Array Value).all (fun x=>x.oneCell')=true:=by simp [Value.oneCell']
 have HONE:=Lib.hid hone
 clear hone
 have HOLD:=Lib.hid (show (#[.int .i64 0,.int .i64 0,.int .u32 0,.int .i64 0,.int .i64 0,.int .i64 0,.int .u64 0,.int .u32 0,.int .i64 0,.int .u64 0,.string ⟨#[]⟩,.string ⟨#[]⟩,.int .u64 0,.int .u64 0]:Array Value).size=(#[.int .i64 4,.int .i64 (n2:Int),.int .u32 (n3:Int),.int .i64 0,.int .i64 0,.int .i64 0,.int .u64 0,.int .u32 0,.int .i64 0,.int .u64 0,.string n5,.string ⟨#[]⟩,.int .u64 (n4:Int),.int .u64 0]:Array Value).size by simp)
 have HSZ:=Lib.hid (rec_size.trans (show some 14=some (#[.int .i64 4,.int .i64 (n2:Int),.int .u32 (n3:Int),.int .i64 0,.int .i64 0,.int .i64 0,.int .u64 0,.int .u32 0,.int .i64 0,.int .u64 0,.string n5,.string ⟨#[]⟩,.int .u64 (n4:Int),.int .u64 0]:Array Value).size by simp))
 go_wp2_with (first
  | (refine wpList_load_row rfl 79 _ rfl (w.heap.size+1) rfl 79 _ (0,0) _ HBX.out Tryz.underlying79 rfl HSZ.out ?_)
  | (refine wpList_store_rowTo rfl 79 _ _ rfl rfl w.heap.size #[.int .i64 4,.int .i64 (n2:Int),.int .u32 (n3:Int),.int .i64 0,.int .i64 0,.int .i64 0,.int .u64 0,.int .u32 0,.int .i64 0,.int .u64 0,.string n5,.string ⟨#[]⟩,.int .u64 (n4:Int),.int .u64 0] rfl rfl 79 #[.int .i64 0,.int .i64 0,.int .u32 0,.int .i64 0,.int .i64 0,.int .i64 0,.int .u64 0,.int .u32 0,.int .i64 0,.int .u64 0,.string ⟨#[]⟩,.string ⟨#[]⟩,.int .u64 0,.int .u64 0] HRX.out HSZ.out HOLD.out HONE.out ?_))
 refine bodyPost_ret (results_cell_row rfl _ _ w.heap.size 79 #[.int .i64 4,.int .i64 (n2:Int),.int .u32 (n3:Int),.int .i64 0,.int .i64 0,.int .i64 0,.int .u64 0,.int .u32 0,.int .i64 0,.int .u64 0,.string n5,.string ⟨#[]⟩,.int .u64 (n4:Int),.int .u64 0] (0,0) _ rfl (setRow_heap _ _ _ _ _ _ HRX.out) Tryz.underlying79 rfl HSZ.out) rfl ?_
 refine ⟨?_,hl1,hl2⟩
 rfl
theorem next_5 (p D:Nat) (P:Pos) (hB0:Bytes P.zs) (hk:P.num 1=5) (w:World) (h:RdP p D w P) (hp:p < w.heap.size) (hD:D < w.heap.size):Calls Tryz.prog 113 #[.pointer (some ⟨p,0,none⟩)] w fun e w' =>
  e = .returned (rv (first P))∧RdP p D w' (behind P)∧But (fun b=>b=p) w w':=by
 have hS:∀ k,k=p→k < w.heap.size:=fun k e=>e ▸ hp
 have fr:=rdP_keeps hp hD
 have hs0:=Rdg.start (S:=fun b=>b=p) (t:=79) fr h #[.int .i64 0,.int .i64 0,.int .u32 0,.int .i64 0,.int .i64 0,.int .i64 0,.int .u64 0,.int .u32 0,.int .i64 0,.int .u64 0,.string ⟨#[]⟩,.string ⟨#[]⟩,.int .u64 0,.int .u64 0]
 obtain ⟨n1,hn1⟩:∃ n,n=P.num 1:=⟨_,rfl⟩
 have hl1:n1 < 256:=by rw [hn1];exact num1_lt hB0
 obtain ⟨p1,hp1⟩:∃ x,x=P.skip 1:=⟨_,rfl⟩
 have hB1:Bytes p1.zs:=by rw [hp1];exact skip_bytes hB0 1
 have k1:=fun w=>rdP_number p D P 1 (by omega) (by omega) w
 rw [← hn1,← hp1] at k1
 obtain ⟨n2,hn2⟩:∃ n,n=p1.num 1:=⟨_,rfl⟩
 have hl2:n2 < 256:=by rw [hn2];exact num1_lt hB1
 obtain ⟨p2,hp2⟩:∃ x,x=p1.skip 1:=⟨_,rfl⟩
 have hB2:Bytes p2.zs:=by rw [hp2];exact skip_bytes hB1 1
 have k2:=fun w=>rdP_number p D p1 1 (by omega) (by omega) w
 rw [← hn2,← hp2] at k2
 obtain ⟨n3,hn3⟩:∃ n,n=p2.num 4:=⟨_,rfl⟩
 have hl3:n3 < 4294967296:=by rw [hn3];exact num4_lt hB2
 obtain ⟨p3,hp3⟩:∃ x,x=p2.skip 4:=⟨_,rfl⟩
 have hB3:Bytes p3.zs:=by rw [hp3];exact skip_bytes hB2 4
 have k3:=fun w=>rdP_number p D p2 4 (by omega) (by omega) w
 rw [← hn3,← hp3] at k3
 obtain ⟨n4,hn4⟩:∃ n,n=p3.num 4:=⟨_,rfl⟩
 have hl4:n4 < 4294967296:=by rw [hn4];exact num4_lt hB3
 obtain ⟨p4,hp4⟩:∃ x,x=p3.skip 4:=⟨_,rfl⟩
 have hB4:Bytes p4.zs:=by rw [hp4];exact skip_bytes hB3 4
 have k4:=fun w=>rdP_number p D p3 4 (by omega) (by omega) w
 rw [← hn4,← hp4] at k4
 obtain ⟨n5,hn5⟩:∃ n,n=p4.num 1:=⟨_,rfl⟩
 have hl5:n5 < 256:=by rw [hn5];exact num1_lt hB4
 obtain ⟨p5,hp5⟩:∃ x,x=p4.skip 1:=⟨_,rfl⟩
 have hB5:Bytes p5.zs:=by rw [hp5];exact skip_bytes hB4 1
 have k5:=fun w=>rdP_number p D p4 1 (by omega) (by omega) w
 rw [← hn5,← hp5] at k5
 obtain ⟨n6,hn6⟩:∃ n,n=p5.num 8:=⟨_,rfl⟩
 have hl6:n6 < 18446744073709551616:=by rw [hn6];exact num8_lt hB5
 obtain ⟨p6,hp6⟩:∃ x,x=p5.skip 8:=⟨_,rfl⟩
 have hB6:Bytes p6.zs:=by rw [hp6];exact skip_bytes hB5 8
 have k6:=fun w=>rdP_number p D p5 8 (by omega) (by omega) w
 rw [← hn6,← hp6] at k6
 have e1:first P=⟨5,n2,n3,0,0,0,0,n4,n5,n6,nothing,nothing,0,0⟩:=by
  subst hp1 hp2 hp3 hp4 hp5 hp6
  unfold first
  simp only
  rw [if_neg (by omega),if_neg (by omega),if_neg (by omega),if_pos hk]
  rw [hn2,hn3,hn4,hn5,hn6]
  rw [hk];rfl
 have e2:behind P=p6:=by
  subst hp1 hp2 hp3 hp4 hp5 hp6
  unfold behind
  simp only
  rw [if_neg (by omega),if_neg (by omega),if_neg (by omega),if_pos hk]
 rw [← hn1] at hk
 rw [hk,show ((5:Nat):Int)=5 from rfl] at k1
 clear hk
 rw [e1,e2]
 clear e1 e2 hn1 hn2 hn3 hn4 hn5 hn6 hB0 hB1 hB2 hB3 hB4 hB5 hB6 hp1 hp2 hp3 hp4 hp5 hp6
 clear h
 simp only [rv,cells,nothing]
 go_enter Tryz.func113,Tryz.ntmps113
 go_wp2_with fail
 refine (k1 _ hs0.rd).mono ?_
 rintro e w1 ⟨rfl,hr,hb⟩
 have hr1:=hs0.read hS hr hb
 clear hr hb hs0 k1
 have c0:w1.cell? ⟨w.heap.size+1,0,none⟩=some (.int .i64 0):=hr1.cell 0 rfl
 have f0:w1.frozen? ⟨w.heap.size+1,0,none⟩=false:=hr1.frozen 0
 have hs1:=hr1.set fr 0 (.int .i64 5) (cs' := #[.int .i64 5,.int .i64 0,.int .u32 0,.int .i64 0,.int .i64 0,.int .i64 0,.int .u64 0,.int .u32 0,.int .i64 0,.int .u64 0,.string ⟨#[]⟩,.string ⟨#[]⟩,.int .u64 0,.int .u64 0]) rfl
 clear hr1
 go_wp2_with fail
 refine (k2 _ hs1.rd).mono ?_
 rintro e w2 ⟨rfl,hr,hb⟩
 have hr2:=hs1.read hS hr hb
 clear hr hb hs1 k2
 have c1:w2.cell? ⟨w.heap.size+1,1,none⟩=some (.int .i64 0):=hr2.cell 1 rfl
 have f1:w2.frozen? ⟨w.heap.size+1,1,none⟩=false:=hr2.frozen 1
 have hs2:=hr2.set fr 1 (.int .i64 (n2:Int)) (cs' := #[.int .i64 5,.int .i64 (n2:Int),.int .u32 0,.int .i64 0,.int .i64 0,.int .i64 0,.int .u64 0,.int .u32 0,.int .i64 0,.int .u64 0,.string ⟨#[]⟩,.string ⟨#[]⟩,.int .u64 0,.int .u64 0]) rfl
 clear hr2
 go_wp2_with fail
 refine (k3 _ hs2.rd).mono ?_
 rintro e w3 ⟨rfl,hr,hb⟩
 have hr3:=hs2.read hS hr hb
 clear hr hb hs2 k3
 have c2:w3.cell? ⟨w.heap.size+1,2,none⟩=some (.int .u32 0):=hr3.cell 2 rfl
 have f2:w3.frozen? ⟨w.heap.size+1,2,none⟩=false:=hr3.frozen 2
 have c0:w3.cell? ⟨w.heap.size+1,0,none⟩=some (.int .i64 5):=hr3.cell 0 rfl
 have hs3:=hr3.set fr 2 (.int .u32 (n3:Int)) (cs' := #[.int .i64 5,.int .i64 (n2:Int),.int .u32 (n3:Int),.int .i64 0,.int .i64 0,.int .i64 0,.int .u64 0,.int .u32 0,.int .i64 0,.int .u64 0,.string ⟨#[]⟩,.string ⟨#[]⟩,.int .u64 0,.int .u64 0]) rfl
 clear hr3
 go_wp2_with fail
 refine (k4 _ hs3.rd).mono ?_
 rintro e w4 ⟨rfl,hr,hb⟩
 have hr4:=hs3.read hS hr hb
 clear hr hb hs3 k4
 have c7:w4.cell? ⟨w.heap.size+1,7,none⟩=some (.int .u32 0):=hr4.cell 7 rfl
 have f7:w4.frozen? ⟨w.heap.size+1,7,none⟩=false:=hr4.frozen 7
 have hs4:=hr4.set fr 7 (.int .u32 (n4:Int)) (cs' := #[.int .i64 5,.int .i64 (n2:Int),.int .u32 (n3:Int),.int .i64 0,.int .i64 0,.int .i64 0,.int .u64 0,.int .u32 (n4:Int),.int .i64 0,.int .u64 0,.string ⟨#[]⟩,.string ⟨#[]⟩,.int .u64 0,.int .u64 0]) rfl
 clear hr4
 go_wp2_with fail
 refine (k5 _ hs4.rd).mono ?_
 rintro e w5 ⟨rfl,hr,hb⟩
 have hr5:=hs4.read hS hr hb
 clear hr hb hs4 k5
 have c8:w5.cell? ⟨w.heap.size+1,8,none⟩=some (.int .i64 0):=hr5.cell 8 rfl
 have f8:w5.frozen? ⟨w.heap.size+1,8,none⟩=false:=hr5.frozen 8
 have hs5:=hr5.set fr 8 (.int .i64 (n5:Int)) (cs' := #[.int .i64 5,.int .i64 (n2:Int),.int .u32 (n3:Int),.int .i64 0,.int .i64 0,.int .i64 0,.int .u64 0,.int .u32 (n4:Int),.int .i64 (n5:Int),.int .u64 0,.string ⟨#[]⟩,.string ⟨#[]⟩,.int .u64 0,.int .u64 0]) rfl
 clear hr5
 go_wp2_with fail
 refine (k6 _ hs5.rd).mono ?_
 rintro e w6 ⟨rfl,hr,hb⟩
 have hr6:=hs5.read hS hr hb
 clear hr hb hs5 k6
 have c9:w6.cell? ⟨w.heap.size+1,9,none⟩=some (.int .u64 0):=hr6.cell 9 rfl
 have f9:w6.frozen? ⟨w.heap.size+1,9,none⟩=false:=hr6.frozen 9
 have hs6:=hr6.set fr 9 (.int .u64 (n6:Int)) (cs' := #[.int .i64 5,.int .i64 (n2:Int),.int .u32 (n3:Int),.int .i64 0,.int .i64 0,.int .i64 0,.int .u64 0,.int .u32 (n4:Int),.int .i64 (n5:Int),.int .u64 (n6:Int),.string ⟨#[]⟩,.string ⟨#[]⟩,.int .u64 0,.int .u64 0]) rfl
 clear hr6
 have HBX:=Lib.hid (show _=_ from hs6.box)
 have HRX:=Lib.hid (show _=_ from hs6.res)
 obtain ⟨hl1,hl2⟩:=hs6.last fr #[.int .i64 5,.int .i64 (n2:Int),.int .u32 (n3:Int),.int .i64 0,.int .i64 0,.int .i64 0,.int .u64 0,.int .u32 (n4:Int),.int .i64 (n5:Int),.int .u64 (n6:Int),.string ⟨#[]⟩,.string ⟨#[]⟩,.int .u64 0,.int .u64 0]
 clear hs6
 have hone:(#[.int .i64 5,.int .i64 (n2:Int),.int .u32 (n3:Int),.int .i64 0,.int .i64 0,.int .i64 0,.int .u64 0,.int .u32 (n4:Int),.int .i64 (n5:Int),.int .u64 (n6:Int),.string ⟨#[]⟩,.string ⟨#[]⟩,.int .u64 0,.int .u64 0]:Array Value).all (fun x=>x.oneCell')=true:=by simp [Value.oneCell']
 have HONE:=Lib.hid hone
 clear hone
 have HOLD:=Lib.hid (show (#[.int .i64 0,.int .i64 0,.int .u32 0,.int .i64 0,.int .i64 0,.int .i64 0,.int .u64 0,.int .u32 0,.int .i64 0,.int .u64 0,.string ⟨#[]⟩,.string ⟨#[]⟩,.int .u64 0,.int .u64 0]:Array Value).size=(#[.int .i64 5,.int .i64 (n2:Int),.int .u32 (n3:Int),.int .i64 0,.int .i64 0,.int .i64 0,.int .u64 0,.int .u32 (n4:Int),.int .i64 (n5:Int),.int .u64 (n6:Int),.string ⟨#[]⟩,.string ⟨#[]⟩,.int .u64 0,.int .u64 0]:Array Value).size by simp)
 have HSZ:=Lib.hid (rec_size.trans (show some 14=some (#[.int .i64 5,.int .i64 (n2:Int),.int .u32 (n3:Int),.int .i64 0,.int .i64 0,.int .i64 0,.int .u64 0,.int .u32 (n4:Int),.int .i64 (n5:Int),.int .u64 (n6:Int),.string ⟨#[]⟩,.string ⟨#[]⟩,.int .u64 0,.int .u64 0]:Array Value).size by simp))
 go_wp2_with (first
  | (refine wpList_load_row rfl 79 _ rfl (w.heap.size+1) rfl 79 _ (0,0) _ HBX.out Tryz.underlying79 rfl HSZ.out ?_)
  | (refine wpList_store_rowTo rfl 79 _ _ rfl rfl w.heap.size #[.int .i64 5,.int .i64 (n2:Int),.int .u32 (n3:Int),.int .i64 0,.int .i64 0,.int .i64 0,.int .u64 0,.int .u32 (n4:Int),.int .i64 (n5:Int),.int .u64 (n6:Int),.string ⟨#[]⟩,.string ⟨#[]⟩,.int .u64 0,.int .u64 0] rfl rfl 79 #[.int .i64 0,.int .i64 0,.int .u32 0,.int .i64 0,.int .i64 0,.int .i64 0,.int .u64 0,.int .u32 0,.int .i64 0,.int .u64 0,.string ⟨#[]⟩,.string ⟨#[]⟩,.int .u64 0,.int .u64 0] HRX.out HSZ.out HOLD.out HONE.out ?_))
 refine bodyPost_ret (results_cell_row rfl _ _ w.heap.size 79 #[.int .i64 5,.int .i64 (n2:Int),.int .u32 (n3:Int),.int .i64 0,.int .i64 0,.int .i64 0,.int .u64 0,.int .u32 (n4:Int),.int .i64 (n5:Int),.int .u64 (n6:Int),.string ⟨#[]⟩,.string ⟨#[]⟩,.int .u64 0,.int .u64 0] (0,0) _ rfl (setRow_heap _ _ _ _ _ _ HRX.out) Tryz.underlying79 rfl HSZ.out) rfl ?_
 refine ⟨?_,hl1,hl2⟩
 rfl
theorem next_6 (p D:Nat) (P:Pos) (hB0:Bytes P.zs) (hk:P.num 1=6) (w:World) (h:RdP p D w P) (hp:p < w.heap.size) (hD:D < w.heap.size):Calls Tryz.prog 113 #[.pointer (some ⟨p,0,none⟩)] w fun e w' =>
  e = .returned (rv (first P))∧RdP p D w' (behind P)∧But (fun b=>b=p) w w':=by
 have hS:∀ k,k=p→k < w.heap.size:=fun k e=>e ▸ hp
 have fr:=rdP_keeps hp hD
 have hs0:=Rdg.start (S:=fun b=>b=p) (t:=79) fr h #[.int .i64 0,.int .i64 0,.int .u32 0,.int .i64 0,.int .i64 0,.int .i64 0,.int .u64 0,.int .u32 0,.int .i64 0,.int .u64 0,.string ⟨#[]⟩,.string ⟨#[]⟩,.int .u64 0,.int .u64 0]
 obtain ⟨n1,hn1⟩:∃ n,n=P.num 1:=⟨_,rfl⟩
 have hl1:n1 < 256:=by rw [hn1];exact num1_lt hB0
 obtain ⟨p1,hp1⟩:∃ x,x=P.skip 1:=⟨_,rfl⟩
 have hB1:Bytes p1.zs:=by rw [hp1];exact skip_bytes hB0 1
 have k1:=fun w=>rdP_number p D P 1 (by omega) (by omega) w
 rw [← hn1,← hp1] at k1
 obtain ⟨n2,hn2⟩:∃ n,n=p1.num 1:=⟨_,rfl⟩
 have hl2:n2 < 256:=by rw [hn2];exact num1_lt hB1
 obtain ⟨p2,hp2⟩:∃ x,x=p1.skip 1:=⟨_,rfl⟩
 have hB2:Bytes p2.zs:=by rw [hp2];exact skip_bytes hB1 1
 have k2:=fun w=>rdP_number p D p1 1 (by omega) (by omega) w
 rw [← hn2,← hp2] at k2
 obtain ⟨n3,hn3⟩:∃ n,n=p2.num 4:=⟨_,rfl⟩
 have hl3:n3 < 4294967296:=by rw [hn3];exact num4_lt hB2
 obtain ⟨p3,hp3⟩:∃ x,x=p2.skip 4:=⟨_,rfl⟩
 have hB3:Bytes p3.zs:=by rw [hp3];exact skip_bytes hB2 4
 have k3:=fun w=>rdP_number p D p2 4 (by omega) (by omega) w
 rw [← hn3,← hp3] at k3
 obtain ⟨n4,hn4⟩:∃ n,n=p3.num 4:=⟨_,rfl⟩
 have hl4:n4 < 4294967296:=by rw [hn4];exact num4_lt hB3
 obtain ⟨p4,hp4⟩:∃ x,x=p3.skip 4:=⟨_,rfl⟩
 have hB4:Bytes p4.zs:=by rw [hp4];exact skip_bytes hB3 4
 have k4:=fun w=>rdP_number p D p3 4 (by omega) (by omega) w
 rw [← hn4,← hp4] at k4
 have e1:first P=⟨6,n2,n3,0,0,0,0,n4,0,0,nothing,nothing,0,0⟩:=by
  subst hp1 hp2 hp3 hp4
  unfold first
  simp only
  rw [if_neg (by omega),if_neg (by omega),if_neg (by omega),if_neg (by omega),if_pos hk]
  rw [hn2,hn3,hn4]
  rw [hk];rfl
 have e2:behind P=p4:=by
  subst hp1 hp2 hp3 hp4
  unfold behind
  simp only
  rw [if_neg (by omega),if_neg (by omega),if_neg (by omega),if_neg (by omega),if_pos hk]
 rw [← hn1] at hk
 rw [hk,show ((6:Nat):Int)=6 from rfl] at k1
 clear hk
 rw [e1,e2]
 clear e1 e2 hn1 hn2 hn3 hn4 hB0 hB1 hB2 hB3 hB4 hp1 hp2 hp3 hp4
 clear h
 simp only [rv,cells,nothing]
 go_enter Tryz.func113,Tryz.ntmps113
 go_wp2_with fail
 refine (k1 _ hs0.rd).mono ?_
 rintro e w1 ⟨rfl,hr,hb⟩
 have hr1:=hs0.read hS hr hb
 clear hr hb hs0 k1
 have c0:w1.cell? ⟨w.heap.size+1,0,none⟩=some (.int .i64 0):=hr1.cell 0 rfl
 have f0:w1.frozen? ⟨w.heap.size+1,0,none⟩=false:=hr1.frozen 0
 have hs1:=hr1.set fr 0 (.int .i64 6) (cs' := #[.int .i64 6,.int .i64 0,.int .u32 0,.int .i64 0,.int .i64 0,.int .i64 0,.int .u64 0,.int .u32 0,.int .i64 0,.int .u64 0,.string ⟨#[]⟩,.string ⟨#[]⟩,.int .u64 0,.int .u64 0]) rfl
 clear hr1
 go_wp2_with fail
 refine (k2 _ hs1.rd).mono ?_
 rintro e w2 ⟨rfl,hr,hb⟩
 have hr2:=hs1.read hS hr hb
 clear hr hb hs1 k2
 have c1:w2.cell? ⟨w.heap.size+1,1,none⟩=some (.int .i64 0):=hr2.cell 1 rfl
 have f1:w2.frozen? ⟨w.heap.size+1,1,none⟩=false:=hr2.frozen 1
 have hs2:=hr2.set fr 1 (.int .i64 (n2:Int)) (cs' := #[.int .i64 6,.int .i64 (n2:Int),.int .u32 0,.int .i64 0,.int .i64 0,.int .i64 0,.int .u64 0,.int .u32 0,.int .i64 0,.int .u64 0,.string ⟨#[]⟩,.string ⟨#[]⟩,.int .u64 0,.int .u64 0]) rfl
 clear hr2
 go_wp2_with fail
 refine (k3 _ hs2.rd).mono ?_
 rintro e w3 ⟨rfl,hr,hb⟩
 have hr3:=hs2.read hS hr hb
 clear hr hb hs2 k3
 have c2:w3.cell? ⟨w.heap.size+1,2,none⟩=some (.int .u32 0):=hr3.cell 2 rfl
 have f2:w3.frozen? ⟨w.heap.size+1,2,none⟩=false:=hr3.frozen 2
 have c0:w3.cell? ⟨w.heap.size+1,0,none⟩=some (.int .i64 6):=hr3.cell 0 rfl
 have hs3:=hr3.set fr 2 (.int .u32 (n3:Int)) (cs' := #[.int .i64 6,.int .i64 (n2:Int),.int .u32 (n3:Int),.int .i64 0,.int .i64 0,.int .i64 0,.int .u64 0,.int .u32 0,.int .i64 0,.int .u64 0,.string ⟨#[]⟩,.string ⟨#[]⟩,.int .u64 0,.int .u64 0]) rfl
 clear hr3
 go_wp2_with fail
 refine (k4 _ hs3.rd).mono ?_
 rintro e w4 ⟨rfl,hr,hb⟩
 have hr4:=hs3.read hS hr hb
 clear hr hb hs3 k4
 have c7:w4.cell? ⟨w.heap.size+1,7,none⟩=some (.int .u32 0):=hr4.cell 7 rfl
 have f7:w4.frozen? ⟨w.heap.size+1,7,none⟩=false:=hr4.frozen 7
 have hs4:=hr4.set fr 7 (.int .u32 (n4:Int)) (cs' := #[.int .i64 6,.int .i64 (n2:Int),.int .u32 (n3:Int),.int .i64 0,.int .i64 0,.int .i64 0,.int .u64 0,.int .u32 (n4:Int),.int .i64 0,.int .u64 0,.string ⟨#[]⟩,.string ⟨#[]⟩,.int .u64 0,.int .u64 0]) rfl
 clear hr4
 have HBX:=Lib.hid (show _=_ from hs4.box)
 have HRX:=Lib.hid (show _=_ from hs4.res)
 obtain ⟨hl1,hl2⟩:=hs4.last fr #[.int .i64 6,.int .i64 (n2:Int),.int .u32 (n3:Int),.int .i64 0,.int .i64 0,.int .i64 0,.int .u64 0,.int .u32 (n4:Int),.int .i64 0,.int .u64 0,.string ⟨#[]⟩,.string ⟨#[]⟩,.int .u64 0,.int .u64 0]
 clear hs4
 have hone:(#[.int .i64 6,.int .i64 (n2:Int),.int .u32 (n3:Int),.int .i64 0,.int .i64 0,.int .i64 0,.int .u64 0,.int .u32 (n4:Int),.int .i64 0,.int .u64 0,.string ⟨#[]⟩,.string ⟨#[]⟩,.int .u64 0,.int .u64 0]:Array Value).all (fun x=>x.oneCell')=true:=by simp [Value.oneCell']
 have HONE:=Lib.hid hone
 clear hone
 have HOLD:=Lib.hid (show (#[.int .i64 0,.int .i64 0,.int .u32 0,.int .i64 0,.int .i64 0,.int .i64 0,.int .u64 0,.int .u32 0,.int .i64 0,.int .u64 0,.string ⟨#[]⟩,.string ⟨#[]⟩,.int .u64 0,.int .u64 0]:Array Value).size=(#[.int .i64 6,.int .i64 (n2:Int),.int .u32 (n3:Int),.int .i64 0,.int .i64 0,.int .i64 0,.int .u64 0,.int .u32 (n4:Int),.int .i64 0,.int .u64 0,.string ⟨#[]⟩,.string ⟨#[]⟩,.int .u64 0,.int .u64 0]:Array Value).size by simp)
 have HSZ:=Lib.hid (rec_size.trans (show some 14=some (#[.int .i64 6,.int .i64 (n2:Int),.int .u32 (n3:Int),.int .i64 0,.int .i64 0,.int .i64 0,.int .u64 0,.int .u32 (n4:Int),.int .i64 0,.int .u64 0,.string ⟨#[]⟩,.string ⟨#[]⟩,.int .u64 0,.int .u64 0]:Array Value).size by simp))
 go_wp2_with (first
  | (refine wpList_load_row rfl 79 _ rfl (w.heap.size+1) rfl 79 _ (0,0) _ HBX.out Tryz.underlying79 rfl HSZ.out ?_)
  | (refine wpList_store_rowTo rfl 79 _ _ rfl rfl w.heap.size #[.int .i64 6,.int .i64 (n2:Int),.int .u32 (n3:Int),.int .i64 0,.int .i64 0,.int .i64 0,.int .u64 0,.int .u32 (n4:Int),.int .i64 0,.int .u64 0,.string ⟨#[]⟩,.string ⟨#[]⟩,.int .u64 0,.int .u64 0] rfl rfl 79 #[.int .i64 0,.int .i64 0,.int .u32 0,.int .i64 0,.int .i64 0,.int .i64 0,.int .u64 0,.int .u32 0,.int .i64 0,.int .u64 0,.string ⟨#[]⟩,.string ⟨#[]⟩,.int .u64 0,.int .u64 0] HRX.out HSZ.out HOLD.out HONE.out ?_))
 refine bodyPost_ret (results_cell_row rfl _ _ w.heap.size 79 #[.int .i64 6,.int .i64 (n2:Int),.int .u32 (n3:Int),.int .i64 0,.int .i64 0,.int .i64 0,.int .u64 0,.int .u32 (n4:Int),.int .i64 0,.int .u64 0,.string ⟨#[]⟩,.string ⟨#[]⟩,.int .u64 0,.int .u64 0] (0,0) _ rfl (setRow_heap _ _ _ _ _ _ HRX.out) Tryz.underlying79 rfl HSZ.out) rfl ?_
 refine ⟨?_,hl1,hl2⟩
 rfl
theorem next_any (p D:Nat) (P:Pos) (hB:Bytes P.zs) (w:World) (h:RdP p D w P) (hp:p < w.heap.size) (hD:D < w.heap.size):Calls Tryz.prog 113 #[.pointer (some ⟨p,0,none⟩)] w fun e w' =>
  e = .returned (rv (first P))∧RdP p D w' (behind P)∧But (fun b=>b=p) w w':=by
 by_cases h1:P.num 1=1
 ·exact next_1 p D P hB h1 w h hp hD
 by_cases h3:P.num 1=3
 ·exact next_3 p D P hB h3 w h hp hD
 by_cases h4:P.num 1=4
 ·exact next_4 p D P hB h4 w h hp hD
 by_cases h5:P.num 1=5
 ·exact next_5 p D P hB h5 w h hp hD
 by_cases h6:P.num 1=6
 ·exact next_6 p D P hB h6 w h hp hD
 exact next_0 p D P hB ⟨h1,h3,h4,h5,h6⟩ w h hp hD
end Go.Proofs.YtbhoknnjilidnaaGreatDoor.Rec
