/- DiskPlays: ways of its loop's round. MADE BY gen-plays.py -/
import Derived.Test.YtiaaadeenbjciaaPlaysBody
namespace Go.Proofs.Ytiaaadeenbjciaa.Disk
open Go.Proofs.Ytiaaadeenbjciaa Go.Proofs.Ytiaaadeenbjciaa.Mem
open Go.ChangeShapes Go.WideShapes Go.ChangeAt Go.RowKit
open Go.Proofs (encStr)
set_option linter.unusedVariables false
set_option linter.unusedSimpArgs false
theorem row_part {w : World} {g len : Nat} {zs : List Int} (h : Row w (some ⟨g, 0, none⟩) len zs) (i k : Nat) (hik : i + k ≤ len) : Row w (some ⟨g, i, none⟩) k ((zs.drop i).take k) := by
  have hl : ((zs.drop i).take k).length = k := by rw [List.length_take, List.length_drop, h.1]; omega
  refine ⟨hl, bytes_take (bytes_drop h.2.1 i) k, fun h0 => ?_⟩
  obtain ⟨b', o, hq, hlt, hc⟩ := h.2.2 (by omega)
  injection hq with hq
  injection hq with hq1 hq2
  subst hq1 hq2
  refine ⟨g, i, rfl, hlt, fun j hj => ?_⟩
  have := hc (i + j) (by omega)
  rw [Nat.zero_add] at this
  rw [this]
  simp [List.getD, List.getElem?_drop, hj]
set_option maxRecDepth 1000000 in
set_option maxHeartbeats 8000000 in
theorem plays_8D (c : Int) (ll cl b off : Nat) (w wr : World) (p rp k : Nat) (S : St) (F G : Nat → Prop) (d : DeedV) (hll : ll ≤ 100) (hlt : k < ll) (hlb : b < w.heap.size) (hdr : DeedAt wr w.heap.size b (off + k * 6) d) (hT : TwinAt w.heap.size wr p rp S S F G) (hfit : Fit k S) (hbw : Below w.heap.size w wr) (hBr : w.heap.size ≤ wr.heap.size)
    (hn100 : d.name.size ≤ 100) (ht100 : d.to.size ≤ 100) (hb1000 : d.blen ≤ 1000) (q : Int) (hq : pickOf d.what 10 = q) (hK : 8 ≤ q) (hq9 : q ≤ 9) (hdn : S.down = false) (f : File) (hlk : look d.name.data.toList S.files = some f) (i jn : Nat) (hi : d.n = (i : Int)) (hj : d.m = (jn : Int)) (hij : i + jn ≤ f.bytes.length) (Z : List Int) (hZ : (f.bytes.drop i).take jn = Z) {u4 u9 u10 u11 u12 u13 u14 u15 u16 u29 u30 u31 u32 u33 u34 u35 u36 u37 u38 u39 u40 u41 u42 u43 u44 u45 u46 u47 u48 u49 u50 u51 u52 u53 u54 u55 u56 u57 u58 u59 u60 u61 u62 u63 u64 u65 u66 u67 u68 u69 u70 u71 u72 u73 u74 u75 u76 u77 u78 u79 u80 u81 u82 u83 u84 u85 u86 u87 u88 u89 u90 u91 u92 u93 u94 u95 u96 u97 u98 u99 u100 u101 u102 u103 u104 u105 u106 u107 u108 u109 u110 u111 u112 u113 u114 u115 u116 u117 u118 u119 u120 u121 u122 u123 u124 u125 u126 u127 u128 u129 u130 u131 u132 u133 u134 u135 u136 u137 u138 u139 u140 u141 u142 u143 u144 u145 u146 u147 u148 u149 u150 u151 u152 u153 u154 u155 u156 u157 u158 u159 u160 u161 u162 u163 u164 u165 u166 u167 u168 u169 u170 u171 u172 u173 u174 u175 u176 u177 u178 u179 u180 u181 u182 u183 u184 u185 u186 u187 u188 u189 u190 u191 u192 u193 u194 u195 u196 u197 u198 u199 u200 u201 u202 u203 u204 u205 u206 u207 u208 u209 u210 u211 u212 u213 u214 u215 u216 u217 u218 u219 u220 u221 u222 u223 u224 u225 u226 u227 u228 u229 u230 u231 u232 : Value} {Q : Exit → Act → World → Prop} (hqp : ∀ x (a : Act) o v w', Q (.panic x) (a.put o v) w' → Q (.panic x) a w')
    (hback : ∀ (v4 v9 v10 v11 v12 v13 v14 v15 v16 v29 v30 v31 v32 v33 v34 v35 v36 v37 v38 v39 v40 v41 v42 v43 v44 v45 v46 v47 v48 v49 v50 v51 v52 v53 v54 v55 v56 v57 v58 v59 v60 v61 v62 v63 v64 v65 v66 v67 v68 v69 v70 v71 v72 v73 v74 v75 v76 v77 v78 v79 v80 v81 v82 v83 v84 v85 v86 v87 v88 v89 v90 v91 v92 v93 v94 v95 v96 v97 v98 v99 v100 v101 v102 v103 v104 v105 v106 v107 v108 v109 v110 v111 v112 v113 v114 v115 v116 v117 v118 v119 v120 v121 v122 v123 v124 v125 v126 v127 v128 v129 v130 v131 v132 v133 v134 v135 v136 v137 v138 v139 v140 v141 v142 v143 v144 v145 v146 v147 v148 v149 v150 v151 v152 v153 v154 v155 v156 v157 v158 v159 v160 v161 v162 v163 v164 v165 v166 v167 v168 v169 v170 v171 v172 v173 v174 v175 v176 v177 v178 v179 v180 v181 v182 v183 v184 v185 v186 v187 v188 v189 v190 v191 v192 v193 v194 v195 v196 v197 v198 v199 v200 v201 v202 v203 v204 v205 v206 v207 v208 v209 v210 v211 v212 v213 v214 v215 v216 v217 v218 v219 v220 v221 v222 v223 v224 v225 v226 v227 v228 v229 v230 v231 v232 : Value) (w4 : World), PRel w.heap.size w p rp ll (.int .i64 ((k : Int) + 1)) w4 → Q .normal { tmps := #[.int .i64 c, .slice (some ⟨b, off, none⟩) ll cl, undef, undef, v4, .bool true, .pointer (some ⟨p, 0, none⟩), .pointer (some ⟨rp, 0, none⟩), .int .i64 ((k : Int) + 1), v9, v10, v11, v12, v13, v14, v15, v16, .bool true, .slice (some ⟨b, off, none⟩) ll cl, .int .i64 (ll : Int), .bool (decide (100 < (ll : Int))), undef, .int .i64 c, .pointer (some ⟨p, 0, none⟩), .pointer (some ⟨p, 0, none⟩), .bool false, .int .i64 c, .agg #[.int .i64 c, .slice none 0 0, .int .i64 0, .bool false, .int .i64 0, .int .i64 0, .bool false], .pointer (some ⟨rp, 0, none⟩), v29, v30, v31, v32, v33, v34, v35, v36, v37, v38, v39, v40, v41, v42, v43, v44, v45, v46, v47, v48, v49, v50, v51, v52, v53, v54, v55, v56, v57, v58, v59, v60, v61, v62, v63, v64, v65, v66, v67, v68, v69, v70, v71, v72, v73, v74, v75, v76, v77, v78, v79, v80, v81, v82, v83, v84, v85, v86, v87, v88, v89, v90, v91, v92, v93, v94, v95, v96, v97, v98, v99, v100, v101, v102, v103, v104, v105, v106, v107, v108, v109, v110, v111, v112, v113, v114, v115, v116, v117, v118, v119, v120, v121, v122, v123, v124, v125, v126, v127, v128, v129, v130, v131, v132, v133, v134, v135, v136, v137, v138, v139, v140, v141, v142, v143, v144, v145, v146, v147, v148, v149, v150, v151, v152, v153, v154, v155, v156, v157, v158, v159, v160, v161, v162, v163, v164, v165, v166, v167, v168, v169, v170, v171, v172, v173, v174, v175, v176, v177, v178, v179, v180, v181, v182, v183, v184, v185, v186, v187, v188, v189, v190, v191, v192, v193, v194, v195, v196, v197, v198, v199, v200, v201, v202, v203, v204, v205, v206, v207, v208, v209, v210, v211, v212, v213, v214, v215, v216, v217, v218, v219, v220, v221, v222, v223, v224, v225, v226, v227, v228, v229, v230, v231, v232, undef], defers := [] } w4) :
    Code.wp Try.prog playsBody Q { tmps := #[.int .i64 c, .slice (some ⟨b, off, none⟩) ll cl, undef, undef, u4, .bool true, .pointer (some ⟨p, 0, none⟩), .pointer (some ⟨rp, 0, none⟩), .int .i64 (k : Int), u9, u10, u11, u12, u13, u14, u15, u16, .bool true, .slice (some ⟨b, off, none⟩) ll cl, .int .i64 (ll : Int), .bool (decide (100 < (ll : Int))), undef, .int .i64 c, .pointer (some ⟨p, 0, none⟩), .pointer (some ⟨p, 0, none⟩), .bool false, .int .i64 c, .agg #[.int .i64 c, .slice none 0 0, .int .i64 0, .bool false, .int .i64 0, .int .i64 0, .bool false], .pointer (some ⟨rp, 0, none⟩), u29, u30, u31, u32, u33, u34, u35, u36, u37, u38, u39, u40, u41, u42, u43, u44, u45, u46, u47, u48, u49, u50, u51, u52, u53, u54, u55, u56, u57, u58, u59, u60, u61, u62, u63, u64, u65, u66, u67, u68, u69, u70, u71, u72, u73, u74, u75, u76, u77, u78, u79, u80, u81, u82, u83, u84, u85, u86, u87, u88, u89, u90, u91, u92, u93, u94, u95, u96, u97, u98, u99, u100, u101, u102, u103, u104, u105, u106, u107, u108, u109, u110, u111, u112, u113, u114, u115, u116, u117, u118, u119, u120, u121, u122, u123, u124, u125, u126, u127, u128, u129, u130, u131, u132, u133, u134, u135, u136, u137, u138, u139, u140, u141, u142, u143, u144, u145, u146, u147, u148, u149, u150, u151, u152, u153, u154, u155, u156, u157, u158, u159, u160, u161, u162, u163, u164, u165, u166, u167, u168, u169, u170, u171, u172, u173, u174, u175, u176, u177, u178, u179, u180, u181, u182, u183, u184, u185, u186, u187, u188, u189, u190, u191, u192, u193, u194, u195, u196, u197, u198, u199, u200, u201, u202, u203, u204, u205, u206, u207, u208, u209, u210, u211, u212, u213, u214, u215, u216, u217, u218, u219, u220, u221, u222, u223, u224, u225, u226, u227, u228, u229, u230, u231, u232, undef], defers := [] } wr := by
  have HREAD := Lib.hid (show readOf S d.name.data.toList d.n d.m = (0, Z) by unfold readOf; rw [hdn, hlk, if_neg (by simp), hi, hj, ← hZ]; exact (if_neg (by omega)).trans (by simp))
  have HDN := Lib.hid hdn
  have HLK := Lib.hid hlk
  have HI := Lib.hid hi
  have HJ := Lib.hid hj
  have HZ := Lib.hid hZ
  clear hdn hlk hi hj hZ
  have e0 := hdr.c0
  have e1 := hdr.c1
  have e2 := hdr.c2
  have e3 := hdr.c3
  have e4 := hdr.c4
  have e5 := hdr.c5
  have i0 : (0 : Int) ≤ (k : Int) := Int.natCast_nonneg _
  have i1 : (k : Int) < (ll : Int) := by omega
  have HDR := Lib.hid hdr
  have HT := Lib.hid hT
  have HFIT := Lib.hid hfit
  have HBWR := Lib.hid hbw
  have hnm := hdr.name
  have hto := hdr.to
  have hbl := hdr.blen
  clear hdr hT hfit hbw
  have u1' : decide (100 < (d.name.size : Int)) = false := by simp; omega
  have u2' : decide (100 < (d.to.size : Int)) = false := by simp; omega
  have u3' : decide (1000 < (d.blen : Int)) = false := by simp; omega
  have HBACK := Lib.hid hback
  have HQP := Lib.hid hqp
  clear hback hqp
  conv => arg 2; whnf
  go_wp2_with fail
  refine (pick_any d.what HDR.out.what _).mono ?_
  rintro x w' ⟨rfl, rfl⟩
  rw [hq]
  clear hq e0 e1 e2 e3 e4 e5
  have hT0 := HT.out.new ((Below.refl wr.heap.size wr).alloc (Nat.le_refl _) (.cells #[.int .i64 d.what, .string d.name, .string d.to, .slice d.ba d.blen d.bcap, .int .i64 d.n, .int .i64 d.m] 32))
  have hbx := Blk.new wr 32 #[.int .i64 d.what, .string d.name, .string d.to, .slice d.ba d.blen d.bcap, .int .i64 d.n, .int .i64 d.m]
  have hsz : wr.heap.size ≤ (wr.alloc (.cells #[.int .i64 d.what, .string d.name, .string d.to, .slice d.ba d.blen d.bcap, .int .i64 d.n, .int .i64 d.m] 32)).heap.size := by simp
  have hrow0 := HDR.out.row.below ((Below.refl wr.heap.size wr).alloc (Nat.le_refl _) (.cells #[.int .i64 d.what, .string d.name, .string d.to, .slice d.ba d.blen d.bcap, .int .i64 d.n, .int .i64 d.m] 32))
  have hb0 := HBWR.out.alloc hBr (.cells #[.int .i64 d.what, .string d.name, .string d.to, .slice d.ba d.blen d.bcap, .int .i64 d.n, .int .i64 d.m] 32)
  have hFx : ¬ F wr.heap.size := fun e => by have := HT.out.left.ltF _ e; omega
  have hGx : ¬ G wr.heap.size := fun e => by have := HT.out.right.ltG _ e; omega
  generalize wr.alloc (.cells #[.int .i64 d.what, .string d.name, .string d.to, .slice d.ba d.blen d.bcap, .int .i64 d.n, .int .i64 d.m] 32) = W at hT0 hbx hsz hrow0 hb0 ⊢
  have hBW : w.heap.size ≤ W.heap.size := by omega
  obtain ⟨gx, hgx⟩ : ∃ gx, gx = wr.heap.size := ⟨_, rfl⟩
  rw [← hgx] at hFx hGx hbx ⊢
  clear hgx hsz HT hBr
  have HT0 := Lib.hid hT0
  have HBX := Lib.hid hbx
  have HROW := Lib.hid hrow0
  have HB0 := Lib.hid hb0
  have g1 : W.cell? ⟨gx, 1, none⟩ = some (.string d.name) := hbx.cell 1
  have g2 : W.cell? ⟨gx, 2, none⟩ = some (.string d.to) := hbx.cell 2
  have g3 : W.cell? ⟨gx, 3, none⟩ = some (.slice d.ba d.blen d.bcap) := hbx.cell 3
  have g4 : W.cell? ⟨gx, 4, none⟩ = some (.int .i64 d.n) := hbx.cell 4
  have g5 : W.cell? ⟨gx, 5, none⟩ = some (.int .i64 d.m) := hbx.cell 5
  clear hT0 hbx hrow0 hb0
  have hn100 : d.name.data.toList.length ≤ 100 := hn100
  have ht100 : d.to.data.toList.length ≤ 100 := ht100
  have hus : used S ≤ 1000000 := by have := HFIT.out.1; omega
  have hfl : S.files.length ≤ 1000000 := by have := HFIT.out.2.1; omega
  have hns : d.name.size ≤ maxLen := by unfold maxLen; omega
  have hts : d.to.size ≤ maxLen := by unfold maxLen; omega
  have hrd := read_any HT0.out.left (by omega) d.name hns d.n d.m HDR.out.n.2
  rw [HREAD.out, show errV 0 = Value.nilIface from rfl] at hrd
  have HRD := Lib.hid hrd
  clear hrd
  go_wp2_with fail
  refine HRD.out.mono ?_
  rintro x w2 ⟨ra, rc, rfl, hrow2, hb2⟩
  have hT2 := HT0.out.new hb2
  obtain ⟨lv0, rs0, pl0, lf0, kp0, hR0, hRG0, hRlt0⟩ := hT2.right
  have hbx2 := HBX.out.but (T := fun k => W.heap.size ≤ k) (But.of_below hb2) (fun e => by have := HBX.out.lt; omega)
  have hrl0 : rs0.length ≤ 1000000 := by rw [← rlen_of hR0]; exact hfl
  have hf := rfind_at hR0 hrl0 d.name
  obtain ⟨e, hl1, hef⟩ : ∃ e, look d.name.data.toList rs0 = some e ∧ e.file = f := by
    have := HLK.out
    rw [hR0.look] at this
    rcases hz : look d.name.data.toList rs0 with _ | z
    · rw [hz] at this; cases this
    · rw [hz] at this; injection this with this; exact ⟨z, rfl, this⟩
  rw [hl1] at hf
  have hP0 := at_pos hR0.riseR hl1
  obtain ⟨P, hP⟩ : ∃ P, P = pos d.name.data.toList rs0 := ⟨_, rfl⟩
  rw [← hP] at hf hP0
  have g1' : w2.cell? ⟨gx, 1, none⟩ = some (.string d.name) := hbx2.cell 1
  have HF := Lib.hid hf
  have HX2 := Lib.hid hbx2
  have HT2 := Lib.hid hT2
  have HB2 := Lib.hid (HB0.out.trans (hb2.mono hBW))
  have HRW := Lib.hid hrow2
  have HRR := Lib.hid hR0
  clear hf hbx2 hT2 hb2 hR0 hRG0 hRlt0 hrow2 g1 g2 g3 g4 g5
  go_wp2_with fail
  refine HF.out.mono ?_
  rintro x w' ⟨rfl, nf, rfl⟩
  have hR1 := HRR.out.drewN nf
  have hT1 := HT2.out.but (X := fun _ => False) ((But.refl _ w2).drewN nf) (fun _ _ e => e) (fun _ _ e => e)
  have hX1 := HX2.out.but (T := fun _ => False) ((But.refl _ w2).drewN nf) (fun e => e)
  have hb1 : Below w.heap.size w (w2.drewN nf) := below_drewN HB2.out nf
  have hr1 := HRW.out.but (S := fun _ => False) ((But.refl _ w2).drewN nf) (fun _ _ _ h => h)
  generalize w2.drewN nf = w5 at hR1 hT1 hX1 hb1 hr1 ⊢
  clear HF HX2 HT2 HB2 HRW HRR g1'
  have d6 : w5.cell? ⟨rp, 6, none⟩ = some (.bool S.down) := hR1.blk.cell 6
  rw [HDN.out] at d6
  have HX1 := Lib.hid hX1
  have HT1 := Lib.hid hT1
  have HB1 := Lib.hid hb1
  have HR1 := Lib.hid hR1
  have HW1 := Lib.hid hr1
  have hBw := hb1.size
  have n4 := fun j => show (w5.drewN j).cell? ⟨gx, 4, none⟩ = some (.int .i64 d.n) from hX1.cell 4
  have n5 := fun j => show (w5.drewN j).cell? ⟨gx, 5, none⟩ = some (.int .i64 d.m) from hX1.cell 5
  obtain ⟨al, cl2, rfl, hlc2, hcm2, hcells⟩ := hR1.shape
  obtain ⟨g, rfl, -, k1, k2, fz, hgW⟩ := hcells _ _ hP0
  obtain ⟨ab, cb, hev, hrowb, hlb2, hcb, hsh⟩ := rent_shape (hR1.ents _ (List.mem_of_getElem? hP0)) (hR1.ent (List.mem_of_getElem? hP0)).2
  simp only at k1 hev
  rw [hev] at k1
  have hebf : e.bytes = f.bytes := by rw [← hef]; rfl
  rw [hebf] at k1 hrowb hlb2 hsh
  have q0 := fun j => show (w5.drewN j).cell? ⟨rp, 1, none⟩ = some (.slice (some ⟨g, 0, none⟩) rs0.length cl2) from (hR1.drewN j).blk.cell 1
  have q1 := fun j => show (w5.drewN j).cell? ⟨g, P * 3 + 1, none⟩ = some (.slice ab f.bytes.length cb) from k1
  have j0 : (0 : Int) ≤ (P : Int) := Int.natCast_nonneg _
  have j1 : (P : Int) < (rs0.length : Int) := by have := get_lt hP0; omega
  have j2 : (rs0.length : Int) ≤ 1000000 := by omega
  have HRB := Lib.hid hrowb
  have HSH := Lib.hid hsh
  have hfb : f.bytes.length ≤ 1000000 := by
    have h1 := total_le_of (f := fun e : REnt => e.bytes.length) (look_mem hl1)
    rw [rused_eq hR1, hebf] at h1
    omega
  clear hlc2 hcm2 hcells k1 k2 fz hrowb hsh hev hebf hP0 hl1 hef
  clear hX1 hT1 hb1 hR1 hr1 hP
  go_wp2_with fail
  simp only [HI.out, HJ.out] at n4 n5
  have t1 : decide ((i : Int) < 0) = false := by simp
  have t2 : decide ((jn : Int) < 0) = false := by simp
  have t3 : decide ((f.bytes.length : Int) < (i : Int)) = false := by simp; omega
  have t3n : decide (f.bytes.length < i) = false := by simp; omega
  have q9 : IntKind.i64.wrap ((f.bytes.length : Int) - (i : Int)) = (f.bytes.length : Int) - (i : Int) := IntWalk.i64_in _ (by omega)
  have t4 : decide ((f.bytes.length : Int) - (i : Int) < (jn : Int)) = false := by simp; omega
  go_quiet (fail)
  have hT6 := HT1.out.but (X := fun _ => False) ((But.refl _ w5).drewN nq) (fun _ _ e => e) (fun _ _ e => e)
  have hX6 := HX1.out.but (T := fun _ => False) ((But.refl _ w5).drewN nq) (fun e => e)
  have hb6 : Below w.heap.size w (w5.drewN nq) := below_drewN HB1.out nq
  have hr6 := HW1.out.but (S := fun _ => False) ((But.refl _ w5).drewN nq) (fun _ _ _ h => h)
  have hrb6 := HRB.out.but (S := fun _ => False) ((But.refl _ w5).drewN nq) (fun _ _ _ h => h)
  have z0 := q0 nq
  have z1 := q1 nq
  generalize w5.drewN nq = w6 at hT6 hX6 hb6 hr6 hrb6 z0 z1 ⊢
  have HX1 := Lib.hid hX6
  have HT1 := Lib.hid hT6
  have HB1 := Lib.hid hb6
  have HW1 := Lib.hid hr6
  have HRB := Lib.hid hrb6
  have n4 := fun j => show (w6.drewN j).cell? ⟨gx, 4, none⟩ = some (.int .i64 d.n) from hX6.cell 4
  have n5 := fun j => show (w6.drewN j).cell? ⟨gx, 5, none⟩ = some (.int .i64 d.m) from hX6.cell 5
  have q0 := fun j => show (w6.drewN j).cell? ⟨rp, 1, none⟩ = some (.slice (some ⟨g, 0, none⟩) rs0.length cl2) from z0
  have q1 := fun j => show (w6.drewN j).cell? ⟨g, P * 3 + 1, none⟩ = some (.slice ab f.bytes.length cb) from z1
  clear hX6 hT6 hb6 hr6 hrb6 z0 z1 d6
  go_wp2_with fail
  refine (code_nil _).mono ?_
  rintro x w' ⟨rfl, rfl⟩
  go_wp2_with fail
  simp only [HI.out, HJ.out] at n4 n5
  clear t1 t2 t3 t3n q9 t4
  have c1 := fun j dst hd => run_string_row (P := Try.prog) (HW1.out.but (S := fun _ => False) ((But.refl _ w6).drewN j) (fun _ _ _ h => h)) 30 5 dst Try.underlying30 Try.underlying5 hd rc
  have HCB := Lib.hid hcb
  have HLB2 := Lib.hid hlb2
  have hcb9 : (cb : Int) ≤ 9223372036854775807 := by simp only [maxLen] at hcb; omega
  clear hcb hlb2
  rcases HSH.out with ⟨rfl, rfl, hnil⟩ | ⟨gb, rfl⟩
  · have hfl0 : f.bytes.length = 0 := by rw [hnil]; rfl
    obtain rfl : i = 0 := by omega
    obtain rfl : jn = 0 := by omega
    rw [hfl0] at q1
    have hz : Z = [] := by rw [← HZ.out]; simp
    have hrp_ : ∀ j, Row (w6.drewN j) none 0 Z := fun j => by rw [hz]; exact Row.nil
    have c2 := fun (j : Nat) dst hd => run_string_row (P := Try.prog) (hrp_ j) 30 5 dst Try.underlying30 Try.underlying5 hd 0
    simp only [Int.natCast_zero, show ((0 : Nat) : Int) = 0 from rfl] at n4 n5
    clear hnil hfl0 hz hrp_
    go_quiet (fail)
    have hT3 := HT1.out.but (X := fun _ => False) ((But.refl _ w6).drewN nq) (fun _ _ e => e) (fun _ _ e => e)
    have hb3 : Below w.heap.size w (w6.drewN nq) := below_drewN HB1.out nq
    have hfit2 : Fit (k + 1) S := HFIT.out.succ
    generalize w6.drewN nq = w3 at hT3 hb3 ⊢
    clear n4 n5 q0 q1 c1 c2
    obtain ⟨mb, cr, es, D, hA, hAF, hAlt⟩ := hT3.left
    obtain ⟨lv, rs, pl, lf, kp', hR, hRG, hRlt⟩ := hT3.right
    have hfz := hfit2.1
    have hfy := hfit2.2.1
    have hsm := same_any hA hR (by rw [← rlen_of hR]; omega) (by omega) hfit2.2.2
    have HSM := Lib.hid hsm
    have HT3 := Lib.hid hT3
    have HB3 := Lib.hid hb3
    have HF2 := Lib.hid hfit2
    have hBw3 := hb3.size
    clear hA hR hAF hAlt hRG hRlt hsm hT3 hb3 hfit2 hfz hfy
    go_wp2_with fail
    refine HSM.out.mono ?_
    rintro x w4 ⟨rfl, hb4⟩
    have HREL := Lib.hid (show PRel w.heap.size w p rp ll (.int .i64 ((k : Int) + 1)) w4 from ⟨k + 1, _, _, _, by omega, by go_num, HT3.out.new hb4, HF2.out, HB3.out.trans (hb4.mono hBw3), Nat.le_trans hBw3 hb4.size⟩)
    clear hb4 HSM
    go_wp2_with fail
    exact HBACK.out _ _ _ _ _ _ _ _ _ _ _ _ _ _ _ _ _ _ _ _ _ _ _ _ _ _ _ _ _ _ _ _ _ _ _ _ _ _ _ _ _ _ _ _ _ _ _ _ _ _ _ _ _ _ _ _ _ _ _ _ _ _ _ _ _ _ _ _ _ _ _ _ _ _ _ _ _ _ _ _ _ _ _ _ _ _ _ _ _ _ _ _ _ _ _ _ _ _ _ _ _ _ _ _ _ _ _ _ _ _ _ _ _ _ _ _ _ _ _ _ _ _ _ _ _ _ _ _ _ _ _ _ _ _ _ _ _ _ _ _ _ _ _ _ _ _ _ _ _ _ _ _ _ _ _ _ _ _ _ _ _ _ _ _ _ _ _ _ _ _ _ _ _ _ _ _ _ _ _ _ _ _ _ _ _ _ _ _ _ _ _ _ _ _ _ _ _ _ _ _ _ _ _ _ _ _ _ _ _ _ _ _ _ _ HREL.out
  · have hij' : i + jn ≤ cb := by have := HLB2.out; omega
    by_cases hci : cb = i
    · obtain rfl : jn = 0 := by omega
      subst hci
      have hz : Z = [] := by rw [← HZ.out]; simp
      have hrp_ : ∀ j, Row (w6.drewN j) (some ⟨gb, 0, none⟩) 0 Z := fun j => by rw [hz]; exact ⟨rfl, bytes_nil, fun h => absurd h (by omega)⟩
      have c2 := fun (j : Nat) dst hd => run_string_row (P := Try.prog) (hrp_ j) 30 5 dst Try.underlying30 Try.underlying5 hd 0
      simp only [show ((0 : Nat) : Int) = 0 from rfl] at n5
      have y1 : IntKind.i64.wrap ((cb : Int) + 0) = (cb : Int) := by rw [Int.add_zero]; exact IntWalk.i64_in _ (by omega)
      have y1' : IntKind.i64.wrap (cb : Int) = (cb : Int) := IntWalk.i64_in _ (by omega)
      clear hz hij' hrp_
      go_quiet (fail)
      have hT3 := HT1.out.but (X := fun _ => False) ((But.refl _ w6).drewN nq) (fun _ _ e => e) (fun _ _ e => e)
      have hb3 : Below w.heap.size w (w6.drewN nq) := below_drewN HB1.out nq
      have hfit2 : Fit (k + 1) S := HFIT.out.succ
      generalize w6.drewN nq = w3 at hT3 hb3 ⊢
      clear n4 n5 q0 q1 c1 c2 y1 y1'
      obtain ⟨mb, cr, es, D, hA, hAF, hAlt⟩ := hT3.left
      obtain ⟨lv, rs, pl, lf, kp', hR, hRG, hRlt⟩ := hT3.right
      have hfz := hfit2.1
      have hfy := hfit2.2.1
      have hsm := same_any hA hR (by rw [← rlen_of hR]; omega) (by omega) hfit2.2.2
      have HSM := Lib.hid hsm
      have HT3 := Lib.hid hT3
      have HB3 := Lib.hid hb3
      have HF2 := Lib.hid hfit2
      have hBw3 := hb3.size
      clear hA hR hAF hAlt hRG hRlt hsm hT3 hb3 hfit2 hfz hfy
      go_wp2_with fail
      refine HSM.out.mono ?_
      rintro x w4 ⟨rfl, hb4⟩
      have HREL := Lib.hid (show PRel w.heap.size w p rp ll (.int .i64 ((k : Int) + 1)) w4 from ⟨k + 1, _, _, _, by omega, by go_num, HT3.out.new hb4, HF2.out, HB3.out.trans (hb4.mono hBw3), Nat.le_trans hBw3 hb4.size⟩)
      clear hb4 HSM
      go_wp2_with fail
      exact HBACK.out _ _ _ _ _ _ _ _ _ _ _ _ _ _ _ _ _ _ _ _ _ _ _ _ _ _ _ _ _ _ _ _ _ _ _ _ _ _ _ _ _ _ _ _ _ _ _ _ _ _ _ _ _ _ _ _ _ _ _ _ _ _ _ _ _ _ _ _ _ _ _ _ _ _ _ _ _ _ _ _ _ _ _ _ _ _ _ _ _ _ _ _ _ _ _ _ _ _ _ _ _ _ _ _ _ _ _ _ _ _ _ _ _ _ _ _ _ _ _ _ _ _ _ _ _ _ _ _ _ _ _ _ _ _ _ _ _ _ _ _ _ _ _ _ _ _ _ _ _ _ _ _ _ _ _ _ _ _ _ _ _ _ _ _ _ _ _ _ _ _ _ _ _ _ _ _ _ _ _ _ _ _ _ _ _ _ _ _ _ _ _ _ _ _ _ _ _ _ _ _ _ _ _ _ _ _ _ _ _ _ _ _ _ _ HREL.out
    · have y1 : IntKind.i64.wrap ((i : Int) + (jn : Int)) = (i : Int) + (jn : Int) := IntWalk.i64_in _ (by omega)
      have y2 : 0 ≤ (i : Int) + (jn : Int) := by omega
      have y3 : ((i : Int) + (jn : Int)).toNat = i + jn := by omega
      have y4 : (i : Int) ≤ (i : Int) + (jn : Int) := by omega
      have y5 : (i : Int) + (jn : Int) ≤ (cb : Int) := by omega
      have hrp_ : ∀ j, Row (w6.drewN j) (some ⟨gb, i, none⟩) jn Z := fun j => HZ.out ▸ row_part (HRB.out.but (S := fun _ => False) ((But.refl _ w6).drewN j) (fun _ _ _ h => h)) i jn (by omega)
      have c2 := fun (j : Nat) dst hd => run_string_row (P := Try.prog) (hrp_ j) 30 5 dst Try.underlying30 Try.underlying5 hd (cb - i)
      clear hrp_ hij'
      go_quiet (fail)
      have hT3 := HT1.out.but (X := fun _ => False) ((But.refl _ w6).drewN nq) (fun _ _ e => e) (fun _ _ e => e)
      have hb3 : Below w.heap.size w (w6.drewN nq) := below_drewN HB1.out nq
      have hfit2 : Fit (k + 1) S := HFIT.out.succ
      generalize w6.drewN nq = w3 at hT3 hb3 ⊢
      clear n4 n5 q0 q1 c1 c2 y1 y2 y3 y4 y5
      obtain ⟨mb, cr, es, D, hA, hAF, hAlt⟩ := hT3.left
      obtain ⟨lv, rs, pl, lf, kp', hR, hRG, hRlt⟩ := hT3.right
      have hfz := hfit2.1
      have hfy := hfit2.2.1
      have hsm := same_any hA hR (by rw [← rlen_of hR]; omega) (by omega) hfit2.2.2
      have HSM := Lib.hid hsm
      have HT3 := Lib.hid hT3
      have HB3 := Lib.hid hb3
      have HF2 := Lib.hid hfit2
      have hBw3 := hb3.size
      clear hA hR hAF hAlt hRG hRlt hsm hT3 hb3 hfit2 hfz hfy
      go_wp2_with fail
      refine HSM.out.mono ?_
      rintro x w4 ⟨rfl, hb4⟩
      have HREL := Lib.hid (show PRel w.heap.size w p rp ll (.int .i64 ((k : Int) + 1)) w4 from ⟨k + 1, _, _, _, by omega, by go_num, HT3.out.new hb4, HF2.out, HB3.out.trans (hb4.mono hBw3), Nat.le_trans hBw3 hb4.size⟩)
      clear hb4 HSM
      go_wp2_with fail
      exact HBACK.out _ _ _ _ _ _ _ _ _ _ _ _ _ _ _ _ _ _ _ _ _ _ _ _ _ _ _ _ _ _ _ _ _ _ _ _ _ _ _ _ _ _ _ _ _ _ _ _ _ _ _ _ _ _ _ _ _ _ _ _ _ _ _ _ _ _ _ _ _ _ _ _ _ _ _ _ _ _ _ _ _ _ _ _ _ _ _ _ _ _ _ _ _ _ _ _ _ _ _ _ _ _ _ _ _ _ _ _ _ _ _ _ _ _ _ _ _ _ _ _ _ _ _ _ _ _ _ _ _ _ _ _ _ _ _ _ _ _ _ _ _ _ _ _ _ _ _ _ _ _ _ _ _ _ _ _ _ _ _ _ _ _ _ _ _ _ _ _ _ _ _ _ _ _ _ _ _ _ _ _ _ _ _ _ _ _ _ _ _ _ _ _ _ _ _ _ _ _ _ _ _ _ _ _ _ _ _ _ _ _ _ _ _ _ HREL.out
end Go.Proofs.Ytiaaadeenbjciaa.Disk
