/- SeglogPlays: a way of its loop's round (6). MADE BY gen-splays.py -/
import Derived.Test.YtbhoknnjilidnaaGreatDoorG46
import Derived.Test.YtbhoknnjilidnaaGreatDoorG47
import Derived.Deep.CutRange
set_option linter.unusedSimpArgs false
set_option linter.unusedVariables false
set_option maxHeartbeats 16000000
set_option maxRecDepth 1000000
namespace Go.Proofs.YtbhoknnjilidnaaGreatDoor.Seg
open Go.Proofs.YtbhoknnjilidnaaGreatDoor.Mem
open Go.Proofs.YtbhoknnjilidnaaGreatDoor.Disk (Nm File St Has grow errV tot planned opened)
open Go.Proofs.YtbhoknnjilidnaaGreatDoor.Rec (Rcd Recs Is okBody few_at)
open Go.Proofs.YtbhoknnjilidnaaGreatDoor.Torn (Gp gcells gpl Pcs Lists frames size ex ex_ok)
open Go.ChangeShapes Go.WideShapes Go.ChangeAt Go.RowKit
theorem splays_6 (w wr:World) (p sb:Nat) (limit cap:Int) (N0 k db doff dcp:Nat) (d:Dd) (hlim:100≤limit∧limit≤100000) (hcap:5000≤cap∧cap≤1000000) (hN:N0≤50) (hlt:k < N0) (hdc:∀ V,Below w.heap.size w V→V.cell? ⟨db,doff+k * 5,none⟩=some (.int .i64 d.what)∧V.cell? ⟨db,doff+k * 5+1,none⟩=some (.slice d.a d.l.length d.cap)∧V.cell? ⟨db,doff+k * 5+2,none⟩=some (.bool d.dn)∧V.cell? ⟨db,doff+k * 5+3,none⟩=some (.int .i64 d.ef)∧V.cell? ⟨db,doff+k * 5+4,none⟩=some (.int .i64 d.kp)) (hdb:db < w.heap.size) (hok:OkDd w d)
  (lb:Nat) (aq:Option Addr) (cq:Nat) (S:St) (nums:List Nat) (base:Nat) (begun:Bool) (fr:Nat→List (List Rcd)) (i:Nat) (F:Nat→Prop) (g c:Nat) (vz:Value) (a1:Option Addr) (cp1:Nat) (ls:List Torn.Lg)
  (hS:SysAt wr p lb S limit nums base begun (szs nums fr) false F g c vz) (hV:Lv S cap nums base begun fr i) (hik:i≤k+1) (hbb:base≠0→begun=true) (hH:Held w wr sb (foot lb g vz F) a1 cp1 ls (baseN base nums fr) begun aq cq (allSpots nums fr)) (hls:ls.map (·.l)=all nums fr) (hlk:ls.length≤k) (hw:pickN d.what=6)
  {u3 u4 u5 u6 u10 u12 u15 u16 u17 u18 u19 u20 u21 u22 u23 u24 u25 u26 u27 u28 u29 u30 u31 u32 u33 u34 u35 u36 u37 u38 u39 u40 u41 u42 u43 u44 u45 u46 u47 u48 u49 u50 u51 u52 u53 u54 u55 u56 u57 u58 u59 u60 u61 u62 u63 u64 u65 u66 u67 u68 u69 u70 u71 u72 u73 u74 u75 u76 u77 u78 u79 u80 u81 u82 u83 u84 u85 u86 u87 u88 u89 u90 u91 u92 u93 u94 u95 u96 u97 u98 u99 u100 u101 u102 u103 u104 u105 u106 u107 u108 u109 u110 u111 u112 u113 u114 u115 u116 u117 u118 u119 u120 u121 u122 u123 u124 u125 u126 u127 u128 u129 u130 u131 u132 u133 u134 u135 u136 u137 u138 u139 u140 u141 u142 u143 u144 u145 u146 u147 u148 u149 u150 u151 u152 u153 u154 u155 u156 u157 u158 u159 u160 u161 u162 u163 u164 u165 u166 u167 u168 u169 u170 u171 u172 u173 u174 u175 u176 u177 u178 u179 u180 u181 u182 u183 u184 u185 u186 u187 u188 u189 u190 u191 u192 u193 u194 u195 u196 u197 u198 u199 u200 u201 u202 u203 u204 u205 u206 u207 u208 u209 u210 u211 u212 u213 u214 u215 u216 u217 u218 u219 u220 u221 u222 u223 u224 u225 u226 u227 u228 u229 u230 u231 u232 u233 u234 u235 u236 u237 u238 u239 u240 u241 u242 u243 u244 u245 u246 u247 u248 u249 u250 u251 u252 u253 u254 u255 u256 u257 u258 u259 u260 u261 u262 u263 u264 u265 u266 u267 u268 u269 u270 u271 u272 u273 u274 u275 u276 u277 u278 u279 u280 u281 u282 u283 u284 u285:Value} {Q:Exit→Act→World→Prop} (hqp:∀ x (a:Act) o v w',Q (.panic x) (a.put o v) w'→Q (.panic x) a w')
  (hret:∀ (v10 v12 v15 v16 v17 v18 v19 v20 v21 v22 v23 v24 v81 v82 v83 v84 v85 v86 v87 v88 v89 v90 v91 v92 v93 v94 v95 v96 v97 v98 v99 v100 v101 v102 v103 v104 v105 v106 v107 v108 v109 v110 v111 v112 v113 v114 v115 v116 v117 v118 v119 v120 v121 v122 v123 v124 v125 v126 v127 v128 v129 v130 v131 v132 v133 v134 v135 v136 v137 v138 v139 v140 v141 v142 v143 v144 v145 v146 v147 v148 v149 v150 v151 v152 v153 v154 v155 v156 v157 v158 v159 v160 v161 v162 v163 v164 v165 v166 v167 v168 v169 v170 v171 v172 v173 v174 v175 v176 v177 v178 v179 v180 v181 v182 v183 v184 v185 v186 v187 v188 v189 v190 v191 v192 v193 v194 v195 v196 v197 v198 v199 v200 v201 v202 v203 v204 v205 v206 v207 v208 v209 v210 v211 v212 v213 v214 v215 v216 v217 v218 v219 v220 v221 v222 v223 v224 v225 v226 v227 v228 v229 v230 v231 v232 v233 v234 v235 v236 v237 v238 v239 v240 v241 v242 v243 v244 v245 v246 v247 v248 v249 v250 v251 v252 v253 v254 v255 v256 v257 v258 v259 v260 v261 v262 v263 v264 v265 v266 v267 v268 v269 v270 v271 v272 v273 v274 v275 v276 v277 v278 v279 v280 v281 v282 v283 v284 y9 y11:Value) (w4:World),Below w.heap.size w w4→Q .ret { tmps := #[.int .i64 limit,.int .i64 cap,.slice (some ⟨db,doff,none⟩) N0 dcp,u3,u4,u5,.bool true,.bool true,.pointer (some ⟨p,0,none⟩),y9,v10,y11,v12,.pointer (some ⟨sb,0,none⟩),.int .i64 (k:Int),v15,v16,v17,v18,v19,v20,v21,v22,v23,v24,u25,u26,u27,u28,u29,u30,u31,u32,u33,u34,u35,u36,u37,u38,u39,u40,u41,u42,u43,u44,u45,u46,u47,u48,u49,u50,u51,u52,u53,u54,u55,u56,u57,u58,u59,u60,u61,u62,u63,u64,u65,u66,u67,u68,u69,u70,u71,u72,u73,u74,u75,u76,u77,u78,u79,u80,v81,v82,v83,v84,v85,v86,v87,v88,v89,v90,v91,v92,v93,v94,v95,v96,v97,v98,v99,v100,v101,v102,v103,v104,v105,v106,v107,v108,v109,v110,v111,v112,v113,v114,v115,v116,v117,v118,v119,v120,v121,v122,v123,v124,v125,v126,v127,v128,v129,v130,v131,v132,v133,v134,v135,v136,v137,v138,v139,v140,v141,v142,v143,v144,v145,v146,v147,v148,v149,v150,v151,v152,v153,v154,v155,v156,v157,v158,v159,v160,v161,v162,v163,v164,v165,v166,v167,v168,v169,v170,v171,v172,v173,v174,v175,v176,v177,v178,v179,v180,v181,v182,v183,v184,v185,v186,v187,v188,v189,v190,v191,v192,v193,v194,v195,v196,v197,v198,v199,v200,v201,v202,v203,v204,v205,v206,v207,v208,v209,v210,v211,v212,v213,v214,v215,v216,v217,v218,v219,v220,v221,v222,v223,v224,v225,v226,v227,v228,v229,v230,v231,v232,v233,v234,v235,v236,v237,v238,v239,v240,v241,v242,v243,v244,v245,v246,v247,v248,v249,v250,v251,v252,v253,v254,v255,v256,v257,v258,v259,v260,v261,v262,v263,v264,v265,v266,v267,v268,v269,v270,v271,v272,v273,v274,v275,v276,v277,v278,v279,v280,v281,v282,v283,v284,u285],defers:=[] } w4)
  (hback:∀ (v6 v10 v12 v15 v16 v17 v18 v19 v20 v21 v22 v23 v24 v81 v82 v83 v84 v85 v86 v87 v88 v89 v90 v91 v92 v93 v94 v95 v96 v97 v98 v99 v100 v101 v102 v103 v104 v105 v106 v107 v108 v109 v110 v111 v112 v113 v114 v115 v116 v117 v118 v119 v120 v121 v122 v123 v124 v125 v126 v127 v128 v129 v130 v131 v132 v133 v134 v135 v136 v137 v138 v139 v140 v141 v142 v143 v144 v145 v146 v147 v148 v149 v150 v151 v152 v153 v154 v155 v156 v157 v158 v159 v160 v161 v162 v163 v164 v165 v166 v167 v168 v169 v170 v171 v172 v173 v174 v175 v176 v177 v178 v179 v180 v181 v182 v183 v184 v185 v186 v187 v188 v189 v190 v191 v192 v193 v194 v195 v196 v197 v198 v199 v200 v201 v202 v203 v204 v205 v206 v207 v208 v209 v210 v211 v212 v213 v214 v215 v216 v217 v218 v219 v220 v221 v222 v223 v224 v225 v226 v227 v228 v229 v230 v231 v232 v233 v234 v235 v236 v237 v238 v239 v240 v241 v242 v243 v244 v245 v246 v247 v248 v249 v250 v251 v252 v253 v254 v255 v256 v257 v258 v259 v260 v261 v262 v263 v264 v265 v266 v267 v268 v269 v270 v271 v272 v273 v274 v275 v276 v277 v278 v279 v280 v281 v282 v283 v284 y9 y11:Value) (w4:World),PRel w p sb limit cap N0 y9 y11 (.int .i64 ((k:Int)+1)) w4→Q .normal { tmps := #[.int .i64 limit,.int .i64 cap,.slice (some ⟨db,doff,none⟩) N0 dcp,u3,u4,u5,v6,.bool true,.pointer (some ⟨p,0,none⟩),y9,v10,y11,v12,.pointer (some ⟨sb,0,none⟩),.int .i64 ((k:Int)+1),v15,v16,v17,v18,v19,v20,v21,v22,v23,v24,u25,u26,u27,u28,u29,u30,u31,u32,u33,u34,u35,u36,u37,u38,u39,u40,u41,u42,u43,u44,u45,u46,u47,u48,u49,u50,u51,u52,u53,u54,u55,u56,u57,u58,u59,u60,u61,u62,u63,u64,u65,u66,u67,u68,u69,u70,u71,u72,u73,u74,u75,u76,u77,u78,u79,u80,v81,v82,v83,v84,v85,v86,v87,v88,v89,v90,v91,v92,v93,v94,v95,v96,v97,v98,v99,v100,v101,v102,v103,v104,v105,v106,v107,v108,v109,v110,v111,v112,v113,v114,v115,v116,v117,v118,v119,v120,v121,v122,v123,v124,v125,v126,v127,v128,v129,v130,v131,v132,v133,v134,v135,v136,v137,v138,v139,v140,v141,v142,v143,v144,v145,v146,v147,v148,v149,v150,v151,v152,v153,v154,v155,v156,v157,v158,v159,v160,v161,v162,v163,v164,v165,v166,v167,v168,v169,v170,v171,v172,v173,v174,v175,v176,v177,v178,v179,v180,v181,v182,v183,v184,v185,v186,v187,v188,v189,v190,v191,v192,v193,v194,v195,v196,v197,v198,v199,v200,v201,v202,v203,v204,v205,v206,v207,v208,v209,v210,v211,v212,v213,v214,v215,v216,v217,v218,v219,v220,v221,v222,v223,v224,v225,v226,v227,v228,v229,v230,v231,v232,v233,v234,v235,v236,v237,v238,v239,v240,v241,v242,v243,v244,v245,v246,v247,v248,v249,v250,v251,v252,v253,v254,v255,v256,v257,v258,v259,v260,v261,v262,v263,v264,v265,v266,v267,v268,v269,v270,v271,v272,v273,v274,v275,v276,v277,v278,v279,v280,v281,v282,v283,v284,u285],defers:=[] } w4) :
  Code.wp Tryz.prog playsBody Q { tmps := #[.int .i64 limit,.int .i64 cap,.slice (some ⟨db,doff,none⟩) N0 dcp,u3,u4,u5,u6,.bool true,.pointer (some ⟨p,0,none⟩),.pointer (some ⟨lb,0,none⟩),u10,.slice aq (allSpots nums fr).length cq,u12,.pointer (some ⟨sb,0,none⟩),.int .i64 (k:Int),u15,u16,u17,u18,u19,u20,u21,u22,u23,u24,u25,u26,u27,u28,u29,u30,u31,u32,u33,u34,u35,u36,u37,u38,u39,u40,u41,u42,u43,u44,u45,u46,u47,u48,u49,u50,u51,u52,u53,u54,u55,u56,u57,u58,u59,u60,u61,u62,u63,u64,u65,u66,u67,u68,u69,u70,u71,u72,u73,u74,u75,u76,u77,u78,u79,u80,u81,u82,u83,u84,u85,u86,u87,u88,u89,u90,u91,u92,u93,u94,u95,u96,u97,u98,u99,u100,u101,u102,u103,u104,u105,u106,u107,u108,u109,u110,u111,u112,u113,u114,u115,u116,u117,u118,u119,u120,u121,u122,u123,u124,u125,u126,u127,u128,u129,u130,u131,u132,u133,u134,u135,u136,u137,u138,u139,u140,u141,u142,u143,u144,u145,u146,u147,u148,u149,u150,u151,u152,u153,u154,u155,u156,u157,u158,u159,u160,u161,u162,u163,u164,u165,u166,u167,u168,u169,u170,u171,u172,u173,u174,u175,u176,u177,u178,u179,u180,u181,u182,u183,u184,u185,u186,u187,u188,u189,u190,u191,u192,u193,u194,u195,u196,u197,u198,u199,u200,u201,u202,u203,u204,u205,u206,u207,u208,u209,u210,u211,u212,u213,u214,u215,u216,u217,u218,u219,u220,u221,u222,u223,u224,u225,u226,u227,u228,u229,u230,u231,u232,u233,u234,u235,u236,u237,u238,u239,u240,u241,u242,u243,u244,u245,u246,u247,u248,u249,u250,u251,u252,u253,u254,u255,u256,u257,u258,u259,u260,u261,u262,u263,u264,u265,u266,u267,u268,u269,u270,u271,u272,u273,u274,u275,u276,u277,u278,u279,u280,u281,u282,u283,u284,u285],defers:=[] } wr:=by
 have HS:=Lib.hid (And.intro hS (And.intro hV (And.intro hik (And.intro hbb (And.intro hH (And.intro hls hlk))))))
 have HD:=Lib.hid hdc
 have HOK:=Lib.hid hok
 have HLIM:=Lib.hid (And.intro hlim (And.intro hcap (And.intro hN hdb)))
 have HRET:=Lib.hid hret
 have HBACK:=Lib.hid hback
 have HQP:=Lib.hid hqp
 have HW:=Lib.hid hw
 have cFew:=few_at 20 (by omega) d.a d.cap d.l wr (hok.recs.below hH.below) hok.len
 obtain ⟨nd,hnd⟩:∃ n,n=d.l.length:=⟨_,rfl⟩
 obtain ⟨d0,d1,d2,d3,d4⟩:=hdc wr hH.below
 clear hS hV hik hbb hH hls hlk hdc hok hret hback hqp hw hlim hcap hN
 conv=>arg 2;whnf
 conv=>arg 4;zeta
 (try dsimp only)
 go_wp2_with fail
 refine cFew.mono ?_
 rintro e w' ⟨⟨z,rfl,hz⟩,rfl⟩
 clear cFew
 rcases z with _|_
 ·(try dsimp only)
  go_wp2_with fail
  exact HRET.out _ _ _ _ _ _ _ _ _ _ _ _ _ _ _ _ _ _ _ _ _ _ _ _ _ _ _ _ _ _ _ _ _ _ _ _ _ _ _ _ _ _ _ _ _ _ _ _ _ _ _ _ _ _ _ _ _ _ _ _ _ _ _ _ _ _ _ _ _ _ _ _ _ _ _ _ _ _ _ _ _ _ _ _ _ _ _ _ _ _ _ _ _ _ _ _ _ _ _ _ _ _ _ _ _ _ _ _ _ _ _ _ _ _ _ _ _ _ _ _ _ _ _ _ _ _ _ _ _ _ _ _ _ _ _ _ _ _ _ _ _ _ _ _ _ _ _ _ _ _ _ _ _ _ _ _ _ _ _ _ _ _ _ _ _ _ _ _ _ _ _ _ _ _ _ _ _ _ _ _ _ _ _ _ _ _ _ _ _ _ _ _ _ _ _ _ _ _ _ _ _ _ _ _ _ _ _ _ _ _ _ _ _ _ _ _ _ _ _ HS.out.2.2.2.2.1.below
 have HZ:=Lib.hid hz
 have cP:=pick_any d.what HOK.out.what.1 HOK.out.what.2
 rw [HW.out] at cP
 clear hz
 (try dsimp only)
 go_wp2_with fail
 refine (cP _).mono ?_
 rintro e w' ⟨rfl,hw'⟩
 rw [hw']
 clear hw' cP
 have cU:=dsk_used HS.out.1.dsk
 (try dsimp only)
 go_wp2_with fail
 refine cU.mono ?_
 rintro e w2 ⟨rfl,hb2⟩
 by_cases hu:cap - 30000 < (Disk.used S:Int)
 ·have hu1:decide (cap - 30000 < (Disk.used S:Int))=true:=decide_eq_true hu
  have ew:IntKind.i64.wrap (cap - 30000)=cap - 30000:=by rw [IntKind.wrap_i64];have:=HLIM.out.2.1;omega
  (try dsimp only)
  go_wp2_with fail
  exact HRET.out _ _ _ _ _ _ _ _ _ _ _ _ _ _ _ _ _ _ _ _ _ _ _ _ _ _ _ _ _ _ _ _ _ _ _ _ _ _ _ _ _ _ _ _ _ _ _ _ _ _ _ _ _ _ _ _ _ _ _ _ _ _ _ _ _ _ _ _ _ _ _ _ _ _ _ _ _ _ _ _ _ _ _ _ _ _ _ _ _ _ _ _ _ _ _ _ _ _ _ _ _ _ _ _ _ _ _ _ _ _ _ _ _ _ _ _ _ _ _ _ _ _ _ _ _ _ _ _ _ _ _ _ _ _ _ _ _ _ _ _ _ _ _ _ _ _ _ _ _ _ _ _ _ _ _ _ _ _ _ _ _ _ _ _ _ _ _ _ _ _ _ _ _ _ _ _ _ _ _ _ _ _ _ _ _ _ _ _ _ _ _ _ _ _ _ _ _ _ _ _ _ _ _ _ _ _ _ _ _ _ _ _ _ _ _ _ _ _ _ (HS.out.2.2.2.2.1.below.trans (hb2.mono HS.out.2.2.2.2.1.below.size))
 have hu1:decide (cap - 30000 < (Disk.used S:Int))=false:=decide_eq_false hu
 have ew:IntKind.i64.wrap (cap - 30000)=cap - 30000:=by rw [IntKind.wrap_i64];have:=HLIM.out.2.1;omega
 have HU:=Lib.hid hu
 have HS2:=Lib.hid (show SysAt w2 p lb S limit nums base begun (szs nums fr) false F g c vz∧Held w w2 sb (foot lb g vz F) a1 cp1 ls (baseN base nums fr) begun aq cq (allSpots nums fr) from ⟨HS.out.1.below hb2,HS.out.2.2.2.2.1.new hb2⟩)
 clear hb2 cU d0 d1 d2 d3 d4 hu
 obtain ⟨d0,d1,d2,d3,d4⟩:=HD.out w2 HS2.out.2.below
 obtain ⟨dn,hdn⟩:∃ b,b=d.dn:=⟨_,rfl⟩
 rw [← hdn] at d2
 clear hdn
 (try dsimp only)
 go_upto_if 112 with (fail)
 go_cut [] from 112 to 124 (fun wx=>∃ (T1:St) (F1:Nat→Prop),SysAt wx p lb T1 limit nums base begun (szs nums fr) false F1 g c vz∧Lv T1 cap nums base begun fr i∧tot T1.files≤tot S.files∧Held w wx sb (foot lb g vz F1) a1 cp1 ls (baseN base nums fr) begun aq cq (allSpots nums fr))
 case first =>
  rcases dn with _|_
  ·(try dsimp only)
   (try dsimp only)
   go_wp2_with fail
   go_meet
   case rel=>exact ⟨S,F,HS2.out.1,HS.out.2.1,Nat.le_refl _,HS2.out.2⟩
  ·(try dsimp only)
   (try dsimp only)
   go_wp2_with fail
   refine Late.region_goes (fun u=>∃ j,u=w2.drewN j) (fun j=>j == 11) (by kernel_rfl) ?_ (fun hH=>?_)
   ·exact ⟨1,rfl⟩
   refine Late.tk 0 ?_ ?_ hH ?_ (hQ:=by exact fun _ _ _ h=>HQP.out _ _ _ _ _ h);rotate_left 2
   refine Late.tk 1 ?_ ?_ hH ?_ (hQ:=by exact fun _ _ _ h=>HQP.out _ _ _ _ _ h);rotate_left 2
   refine Late.tk 2 ?_ ?_ hH ?_ (hQ:=by exact fun _ _ _ h=>HQP.out _ _ _ _ _ h);rotate_left 2
   refine Late.tk 3 ?_ ?_ hH ?_ (hQ:=by exact fun _ _ _ h=>HQP.out _ _ _ _ _ h);rotate_left 2
   refine Late.tk 4 ?_ ?_ hH ?_ (hQ:=by exact fun _ _ _ h=>HQP.out _ _ _ _ _ h);rotate_left 2
   refine Late.tk 5 ?_ ?_ hH ?_ (hQ:=by exact fun _ _ _ h=>HQP.out _ _ _ _ _ h);rotate_left 2
   refine Late.tk 6 ?_ ?_ hH ?_ (hQ:=by exact fun _ _ _ h=>HQP.out _ _ _ _ _ h);rotate_left 2
   refine Late.tk 7 ?_ ?_ hH ?_ (hQ:=by exact fun _ _ _ h=>HQP.out _ _ _ _ _ h);rotate_left 2
   refine Late.tk 8 ?_ ?_ hH ?_ (hQ:=by exact fun _ _ _ h=>HQP.out _ _ _ _ _ h);rotate_left 2
   refine Late.tk 9 ?_ ?_ hH ?_ (hQ:=by exact fun _ _ _ h=>HQP.out _ _ _ _ _ h);rotate_left 2
   refine Late.tk 10 ?_ ?_ hH ?_ (hQ:=by exact fun _ _ _ h=>HQP.out _ _ _ _ _ h);rotate_left 2
   rotate_left
   any_goals (intro wy hSw;(try dsimp only at hSw);obtain ⟨j,rfl⟩:=hSw;obtain ⟨d0,d1,d2,d3,d4⟩:=HD.out _ (HS2.out.2.below.trans ((below_drewN w2 j).mono HS2.out.2.below.size));go_simp;try (with_reducible rfl))
   try simp only [Act.put,List.setIfInBounds_toArray,List.set_cons_zero,List.set_cons_succ]
   refine Late.Goes.one (i:=11) (by kernel_rfl) (by simp only [List.getElem?_toArray,List.getElem?_cons_succ,List.getElem?_cons_zero];rfl) (fun K hK=>?_)
   clear hH
   go_simp
   go_at_call 10
   have hd1:=(Below.refl w2.heap.size w2).drew
   refine (dsk_plan (HS2.out.1.below hd1).dsk d.ef d.kp HOK.out.ef.2 HOK.out.kp.2).mono ?_
   rintro e w3 ⟨rfl,hN3⟩
   have HT3:=Lib.hid (show ∃ (T1:St) (F1:Nat→Prop),SysAt w3 p lb T1 limit nums base begun (szs nums fr) false F1 g c vz∧Lv T1 cap nums base begun fr i∧tot T1.files≤tot S.files∧Held w w3 sb (foot lb g vz F1) a1 cp1 ls (baseN base nums fr) begun aq cq (allSpots nums fr) from ⟨planned S d.ef d.kp,_,(HS2.out.1.below hd1).disk hN3,HS.out.2.1.planned HOK.out.ef.2 HOK.out.kp.2,Nat.le_refl _,(HS2.out.2.new hd1).disk hN3⟩)
   clear hd1 hN3
   refine hK.out _ _ ?_ (fun _=>?_)
   ·exact fun h=>by cases h
   clear hK K
   try simp only [Act.put,List.setIfInBounds_toArray,List.set_cons_zero,List.set_cons_succ]
   refine Late.Goes.done (by kernel_rfl) ?_ _
   clear d0 d1 d2 d3 d4
   (try dsimp only)
   (try dsimp only)
   go_wp2_with fail
   go_meet
   case rel=>exact HT3.out
 case rest =>
  obtain ⟨T1,F1,hT⟩:=hcut
  rename World=>w3
  have HT:=Lib.hid hT
  clear hT d0 d1 d2 d3 d4
  obtain ⟨d0,d1,d2,d3,d4⟩:=HD.out w3 HT.out.2.2.2.below
  by_cases h0:base=0
  ·skip
   subst h0
   clear d0 d1 d2 d3 d4
   have cDn:=fun V=>done_six_no a1 ls.length cp1 (baseN 0 nums fr) (by rw [only_base];omega) begun d.what HW.out HOK.out.what.1 HOK.out.what.2 d.a d.l.length d.cap d.dn d.ef d.kp V
   unfold stV deedV at cDn
   go_upto_region 23 with (fail)
   go_cut [17,18] from 127 to 135 (fun s17 s18 wx=>∃ q,s17 = .pointer (some ⟨q,0,none⟩)∧s18 = .int .i64 1∧Below w3.heap.size w3 wx∧Disk.Blk wx q 36 #[.slice a1 ls.length cp1,.int .i64 (baseN 0 nums fr),.bool begun]∧w3.heap.size≤q)
   case first =>
    (try dsimp only)
    refine Late.region_goes (fun V=>Below w3.heap.size w3 V) (fun _=>false) (by kernel_rfl) ?_ (fun hH=>?_)
    ·exact (Below.refl _ w3).drew
    refine Late.tk 1 ?_ ?_ hH ?_ (hQ:=by exact fun _ _ _ h=>HQP.out _ _ _ _ _ h);rotate_left 2
    refine Late.tk 2 ?_ ?_ hH ?_ (hQ:=by exact fun _ _ _ h=>HQP.out _ _ _ _ _ h);rotate_left 2
    refine Late.tk 3 ?_ ?_ hH ?_ (hQ:=by exact fun _ _ _ h=>HQP.out _ _ _ _ _ h);rotate_left 2
    refine Late.tk 0 ?_ ?_ hH ?_ (hQ:=by exact fun _ _ _ h=>HQP.out _ _ _ _ _ h);rotate_left 2
    refine Late.tk 4 ?_ ?_ hH ?_ (hQ:=by exact fun _ _ _ h=>HQP.out _ _ _ _ _ h);rotate_left 2
    rotate_left
    any_goals (intro wy hSw;(try dsimp only at hSw);have hH:=HT.out.2.2.2.new hSw;have b0:wy.cell? ⟨sb,0,none⟩=some _:=hH.state.cell 0;have b1:wy.cell? ⟨sb,1,none⟩=some _:=hH.state.cell 1;have b2:wy.cell? ⟨sb,2,none⟩=some _:=hH.state.cell 2;obtain ⟨d0,d1,d2,d3,d4⟩:=HD.out _ hH.below;clear hH;go_simp;try (with_reducible rfl))
    try simp only [Act.put,List.setIfInBounds_toArray,List.set_cons_zero,List.set_cons_succ]
    have HBA:=Lib.hid ((Below.refl w3.heap.size w3).drew)
    obtain ⟨wA,hwA⟩:∃ V,V=w3.drew:=⟨_,rfl⟩
    rw [← hwA] at HBA ⊢
    clear hwA
    refine Late.Goes.two (i:=5) (j:=9) (by kernel_rfl) (by simp only [List.getElem?_toArray,List.getElem?_cons_succ,List.getElem?_cons_zero];rfl) (by simp only [List.getElem?_toArray,List.getElem?_cons_succ,List.getElem?_cons_zero];rfl) (fun K hK=>?_) (fun K hK=>?_) <;> clear hH
    ·skip
     go_simp
     go_at_call 11
     refine (cDn wA).mono ?_
     rintro e wd ⟨rfl,hbd⟩
     have hbe:=HBA.out.trans (hbd.mono HBA.out.size)
     clear hbd
     refine hK.out _ _ ?_ (fun hH=>?_)
     ·exact fun _=>hbe
     clear hK K
     have hH:=hH rfl
     try simp only [Act.put,List.setIfInBounds_toArray,List.set_cons_zero,List.set_cons_succ]
     refine Late.tk 6 ?_ ?_ hH ?_ (hQ:=by exact fun _ _ _ h=>HQP.out _ _ _ _ _ h);rotate_left 2
     refine Late.tk 7 ?_ ?_ hH ?_ (hQ:=by exact fun _ _ _ h=>HQP.out _ _ _ _ _ h);rotate_left 2
     refine Late.tk 8 ?_ ?_ hH ?_ (hQ:=by exact fun _ _ _ h=>HQP.out _ _ _ _ _ h);rotate_left 2
     rotate_left
     any_goals (intro wy hSw;(try dsimp only at hSw);have hH:=HT.out.2.2.2.new hSw;have b0:wy.cell? ⟨sb,0,none⟩=some _:=hH.state.cell 0;have b1:wy.cell? ⟨sb,1,none⟩=some _:=hH.state.cell 1;have b2:wy.cell? ⟨sb,2,none⟩=some _:=hH.state.cell 2;obtain ⟨d0,d1,d2,d3,d4⟩:=HD.out _ hH.below;clear hH;go_simp;try (with_reducible rfl))
     try simp only [Act.put,List.setIfInBounds_toArray,List.set_cons_zero,List.set_cons_succ]
     refine Late.Goes.one (i:=9) (by kernel_rfl) (by simp only [List.getElem?_toArray,List.getElem?_cons_succ,List.getElem?_cons_zero];rfl) (fun K hK=>?_)
     clear hH
     go_simp
     have hbf:=hbe.alloc hbe.size (.cells #[.slice none 0 0,.int .i64 0,.bool false] 36)
     refine hK.out _ _ ?_ (fun hH=>?_)
     ·exact fun _=>hbf
     clear hK K
     have hH:=hH rfl
     try simp only [Act.put,List.setIfInBounds_toArray,List.set_cons_zero,List.set_cons_succ]
     refine Late.Goes.one (i:=10) (by kernel_rfl) (by simp only [List.getElem?_toArray,List.getElem?_cons_succ,List.getElem?_cons_zero];rfl) (fun K hK=>?_)
     clear hH
     go_simp
     have hbn:=hbe.alloc hbe.size (.cells #[.slice a1 ls.length cp1,.int .i64 (baseN 0 nums fr),.bool begun] 36)
     have hxn:Disk.Blk (wd.alloc (.cells #[.slice a1 ls.length cp1,.int .i64 (baseN 0 nums fr),.bool begun] 36)) wd.heap.size 36 #[.slice a1 ls.length cp1,.int .i64 (baseN 0 nums fr),.bool begun]:=Disk.Blk.new _ _ _
     obtain ⟨wn,hwn⟩:∃ V,V=wd.alloc (.cells #[.slice a1 ls.length cp1,.int .i64 (baseN 0 nums fr),.bool begun] 36):=⟨_,rfl⟩
     obtain ⟨q,hq⟩:∃ q,q=wd.heap.size:=⟨_,rfl⟩
     rw [← hwn] at hbn hxn ⊢
     rw [← hq] at hxn ⊢
     have HN:=Lib.hid (And.intro hbn (And.intro hxn (show w3.heap.size≤q by rw [hq];exact hbe.size)))
     clear hbe hbf hbn hxn hwn hq
     refine hK.out _ _ ?_ (fun hH=>?_)
     ·exact fun _=>HN.out.1
     clear hK K
     have hH:=hH rfl
     try simp only [Act.put,List.setIfInBounds_toArray,List.set_cons_zero,List.set_cons_succ]
     refine Late.tk 11 ?_ ?_ hH ?_ (hQ:=by exact fun _ _ _ h=>HQP.out _ _ _ _ _ h);rotate_left 2
     rotate_left
     any_goals (intro wy hSw;(try dsimp only at hSw);have hH:=HT.out.2.2.2.new hSw;have b0:wy.cell? ⟨sb,0,none⟩=some _:=hH.state.cell 0;have b1:wy.cell? ⟨sb,1,none⟩=some _:=hH.state.cell 1;have b2:wy.cell? ⟨sb,2,none⟩=some _:=hH.state.cell 2;obtain ⟨d0,d1,d2,d3,d4⟩:=HD.out _ hH.below;clear hH;go_simp;try (with_reducible rfl))
     try simp only [Act.put,List.setIfInBounds_toArray,List.set_cons_zero,List.set_cons_succ]
     refine Late.Goes.done (by kernel_rfl) ?_ _
     (try dsimp only)
     go_wp2_with fail
     go_meet
     case rel=>exact ⟨q,rfl,rfl,HN.out.1,HN.out.2.1,HN.out.2.2⟩
    ·skip
     go_simp
     have hal:=HBA.out.alloc HBA.out.size (.cells #[.slice none 0 0,.int .i64 0,.bool false] 36)
     have hx0:Disk.Blk (wA.alloc (.cells #[.slice none 0 0,.int .i64 0,.bool false] 36)) wA.heap.size 36 #[.slice none 0 0,.int .i64 0,.bool false]:=Disk.Blk.new _ _ _
     obtain ⟨wB,hwB⟩:∃ V,V=wA.alloc (.cells #[.slice none 0 0,.int .i64 0,.bool false] 36):=⟨_,rfl⟩
     obtain ⟨q,hq⟩:∃ q,q=wA.heap.size:=⟨_,rfl⟩
     rw [← hwB] at hal hx0 ⊢
     rw [← hq] at hx0 ⊢
     have hqW:w3.heap.size≤q:=by rw [hq];exact HBA.out.size
     clear hwB hq
     refine hK.out _ _ ?_ (fun hH=>?_)
     ·exact fun _=>hal
     clear hK K
     have hH:=hH rfl
     try simp only [Act.put,List.setIfInBounds_toArray,List.set_cons_zero,List.set_cons_succ]
     refine Late.Goes.one (i:=5) (by kernel_rfl) (by simp only [List.getElem?_toArray,List.getElem?_cons_succ,List.getElem?_cons_zero];rfl) (fun K hK=>?_)
     clear hH
     go_simp
     go_at_call 11
     refine (cDn wB).mono ?_
     rintro e wd ⟨rfl,hbd⟩
     have hbe:=hal.trans (hbd.mono hal.size)
     have hx1:=hx0.but (But.of_new hbd (S:=fun _=>False)) (fun h=>h)
     clear hbd hal hx0
     refine hK.out _ _ ?_ (fun hH=>?_)
     ·exact fun _=>hbe
     clear hK K
     have hH:=hH rfl
     try simp only [Act.put,List.setIfInBounds_toArray,List.set_cons_zero,List.set_cons_succ]
     refine Late.tk 6 ?_ ?_ hH ?_ (hQ:=by exact fun _ _ _ h=>HQP.out _ _ _ _ _ h);rotate_left 2
     refine Late.tk 7 ?_ ?_ hH ?_ (hQ:=by exact fun _ _ _ h=>HQP.out _ _ _ _ _ h);rotate_left 2
     refine Late.tk 8 ?_ ?_ hH ?_ (hQ:=by exact fun _ _ _ h=>HQP.out _ _ _ _ _ h);rotate_left 2
     rotate_left
     any_goals (intro wy hSw;(try dsimp only at hSw);have hH:=HT.out.2.2.2.new hSw;have b0:wy.cell? ⟨sb,0,none⟩=some _:=hH.state.cell 0;have b1:wy.cell? ⟨sb,1,none⟩=some _:=hH.state.cell 1;have b2:wy.cell? ⟨sb,2,none⟩=some _:=hH.state.cell 2;obtain ⟨d0,d1,d2,d3,d4⟩:=HD.out _ hH.below;clear hH;go_simp;try (with_reducible rfl))
     try simp only [Act.put,List.setIfInBounds_toArray,List.set_cons_zero,List.set_cons_succ]
     refine Late.Goes.one (i:=10) (by kernel_rfl) (by simp only [List.getElem?_toArray,List.getElem?_cons_succ,List.getElem?_cons_zero];rfl) (fun K hK=>?_)
     clear hH
     have z0:wd.cell? ⟨q,0,none⟩=some (.slice none 0 0):=hx1.cell 0
     have z1:wd.cell? ⟨q,1,none⟩=some (.int .i64 0):=hx1.cell 1
     have z2:wd.cell? ⟨q,2,none⟩=some (.bool false):=hx1.cell 2
     have y0:wd.frozen? ⟨q,0,none⟩=false:=hx1.frozen 0
     have y1:wd.frozen? ⟨q,1,none⟩=false:=hx1.frozen 1
     have y2:wd.frozen? ⟨q,2,none⟩=false:=hx1.frozen 2
     go_simp
     clear z0 z1 z2 y0 y1 y2
     obtain ⟨wn,hwn⟩:∃ V,V=((wd.setCell ⟨q,0,none⟩ (.slice a1 ls.length cp1)).setCell ⟨q,1,none⟩ (.int .i64 (baseN 0 nums fr))).setCell ⟨q,2,none⟩ (.bool begun):=⟨_,rfl⟩
     have HN:=Lib.hid (show Below w3.heap.size w3 wn∧Disk.Blk wn q 36 #[.slice a1 ls.length cp1,.int .i64 (baseN 0 nums fr),.bool begun]∧w3.heap.size≤q from by rw [hwn];exact ⟨below_set3 hbe hqW _ _ _,((hx1.set_ 0 _).set_ 1 _).set_ 2 _,hqW⟩)
     rw [← hwn]
     clear hbe hx1 hwn hqW
     refine hK.out _ _ ?_ (fun hH=>?_)
     ·exact fun _=>HN.out.1
     clear hK K
     have hH:=hH rfl
     try simp only [Act.put,List.setIfInBounds_toArray,List.set_cons_zero,List.set_cons_succ]
     refine Late.tk 11 ?_ ?_ hH ?_ (hQ:=by exact fun _ _ _ h=>HQP.out _ _ _ _ _ h);rotate_left 2
     rotate_left
     any_goals (intro wy hSw;(try dsimp only at hSw);have hH:=HT.out.2.2.2.new hSw;have b0:wy.cell? ⟨sb,0,none⟩=some _:=hH.state.cell 0;have b1:wy.cell? ⟨sb,1,none⟩=some _:=hH.state.cell 1;have b2:wy.cell? ⟨sb,2,none⟩=some _:=hH.state.cell 2;obtain ⟨d0,d1,d2,d3,d4⟩:=HD.out _ hH.below;clear hH;go_simp;try (with_reducible rfl))
     try simp only [Act.put,List.setIfInBounds_toArray,List.set_cons_zero,List.set_cons_succ]
     refine Late.Goes.done (by kernel_rfl) ?_ _
     (try dsimp only)
     go_wp2_with fail
     go_meet
     case rel=>exact ⟨q,rfl,rfl,HN.out.1,HN.out.2.1,HN.out.2.2⟩
   case rest =>
    obtain ⟨q,rfl,rfl,hbn,hqb,hqn⟩:=hcut
    rename World=>wn
    have HN:=Lib.hid (And.intro hbn (And.intro hqb hqn))
    skip
    clear hbn hqb hqn
    have hH5:=HT.out.2.2.2.new HN.out.1
    have hS5:=HT.out.1.below HN.out.1
    have hal:=(Below.refl wn.heap.size wn).alloc (Nat.le_refl _) (.cells #[.int .i64 0,.int .i64 0,.int .i64 0] 47)
    obtain ⟨wp,hwp⟩:∃ V,V=wn.alloc (.cells #[.int .i64 0,.int .i64 0,.int .i64 0] 47):=⟨_,rfl⟩
    rw [← hwp] at hal
    have H6:=Lib.hid (And.intro (hS5.below hal) (hH5.new hal))
    have cA:=adopts_no H6.out.1
    rw [errV_bad (show (1:Int)≠0 by decide)] at cA
    clear hH5 hS5 hal
    (try dsimp only)
    go_wp2_with fail
    rw [← hwp]
    clear hwp
    refine cA.mono ?_
    rintro e w' ⟨rfl,hw'⟩
    rw [← hw']
    clear hw' cA
    have cD:=dsk_down H6.out.1.dsk
    rw [HT.out.2.1.lg.up.up] at cD
    (try dsimp only)
    go_wp2_with fail
    refine cD.mono ?_
    rintro e w' ⟨rfl,hw'⟩
    rw [← hw']
    clear hw' cD
    have cE:=fun V=>Err.code_some 1 (by omega) (by omega) V
    (try dsimp only)
    go_wp2_with fail
    refine (cE _).mono ?_
    rintro e w' ⟨rfl,hw'⟩
    rw [← hw']
    clear hw' cE
    have cO:=dsk_open H6.out.1.dsk
    (try dsimp only)
    go_wp2_with fail
    refine cO.mono ?_
    rintro e w5 ⟨rfl,hN5⟩
    have H7:=Lib.hid (And.intro (H6.out.1.disk hN5) (H6.out.2.disk hN5))
    have b0:w5.cell? ⟨sb,0,none⟩=some (.slice a1 ls.length cp1):=H7.out.2.state.cell 0
    have b1:w5.cell? ⟨sb,1,none⟩=some (.int .i64 (baseN 0 nums fr)):=H7.out.2.state.cell 1
    have b2:w5.cell? ⟨sb,2,none⟩=some (.bool begun):=H7.out.2.state.cell 2
    have cW:=whole_any (cq:=cq) (cp:=cp1) H7.out.1 HT.out.2.1.opened rfl H7.out.2.spots H7.out.2.lists HS.out.2.2.2.2.2.1 (by have:=HS.out.2.2.2.2.2.2;have:=HLIM.out.2.2.1;omega) (fun g hg=>by have:=H7.out.2.few g hg;omega) (baseN 0 nums fr) begun
    unfold stV at cW
    clear cO hN5
    (try dsimp only)
    go_wp2_with fail
    refine cW.mono ?_
    rintro e w9 ⟨rfl,hb9⟩
    clear cW b0 b1 b2
    have HPR:=Lib.hid (prel_same (limit:=limit) (cap:=cap) hlt HS.out.2.2.1 HS.out.2.2.2.1 HS.out.2.2.2.2.2.2 (H7.out.1.below hb9) HT.out.2.1.opened (H7.out.2.new hb9) HS.out.2.2.2.2.2.1)
    clear hb9
    have hk50:k < 50:=by have:=HLIM.out.2.2.1;omega
    (try dsimp only)
    go_wp2_with fail
    exact HBACK.out _ _ _ _ _ _ _ _ _ _ _ _ _ _ _ _ _ _ _ _ _ _ _ _ _ _ _ _ _ _ _ _ _ _ _ _ _ _ _ _ _ _ _ _ _ _ _ _ _ _ _ _ _ _ _ _ _ _ _ _ _ _ _ _ _ _ _ _ _ _ _ _ _ _ _ _ _ _ _ _ _ _ _ _ _ _ _ _ _ _ _ _ _ _ _ _ _ _ _ _ _ _ _ _ _ _ _ _ _ _ _ _ _ _ _ _ _ _ _ _ _ _ _ _ _ _ _ _ _ _ _ _ _ _ _ _ _ _ _ _ _ _ _ _ _ _ _ _ _ _ _ _ _ _ _ _ _ _ _ _ _ _ _ _ _ _ _ _ _ _ _ _ _ _ _ _ _ _ _ _ _ _ _ _ _ _ _ _ _ _ _ _ _ _ _ _ _ _ _ _ _ _ _ _ _ _ _ _ _ _ _ _ _ _ _ _ _ _ _ _ HPR.out
  ·skip
   obtain ⟨nb,hnb⟩:∃ n,n=(all (below base nums) fr).length:=⟨_,rfl⟩
   have hbN:baseN base nums fr=(nb:Int):=by unfold baseN;rw [if_neg h0,hnb]
   have hlb:nb≤ls.length:=by rw [hnb];exact (all_from HT.out.2.1.lg.num.rising HS.out.2.2.2.2.2.1).2.1
   have HNB:=Lib.hid (And.intro hnb (And.intro hbN hlb))
   have H0:=Lib.hid h0
   clear hnb hbN hlb h0
   clear d0 d1 d2 d3 d4
   have cDn:=fun V=>done_adopt HT.out.2.2.2.rows HNB.out.2.2 HNB.out.2.1 begun d.what HW.out HOK.out.what.1 HOK.out.what.2 d.a d.l.length d.cap d.dn d.ef d.kp V
   unfold stV deedV at cDn
   go_upto_region 23 with (fail)
   go_cut [17,18] from 127 to 135 (fun s17 s18 wx=>∃ q,∃ aN nN cN,s17 = .pointer (some ⟨q,0,none⟩)∧s18 = .int .i64 0∧Below w3.heap.size w3 wx∧Disk.Blk wx q 36 #[.slice aN nN cN,.int .i64 (-1),.bool false]∧w3.heap.size≤q∧nN=(ls.drop nb).length∧LRow w w3 sb (foot lb g vz F1) aN cN (ls.drop nb))
   case first =>
    (try dsimp only)
    refine Late.region_goes (fun V=>Below w3.heap.size w3 V) (fun _=>false) (by kernel_rfl) ?_ (fun hH=>?_)
    ·exact (Below.refl _ w3).drew
    refine Late.tk 1 ?_ ?_ hH ?_ (hQ:=by exact fun _ _ _ h=>HQP.out _ _ _ _ _ h);rotate_left 2
    refine Late.tk 2 ?_ ?_ hH ?_ (hQ:=by exact fun _ _ _ h=>HQP.out _ _ _ _ _ h);rotate_left 2
    refine Late.tk 3 ?_ ?_ hH ?_ (hQ:=by exact fun _ _ _ h=>HQP.out _ _ _ _ _ h);rotate_left 2
    refine Late.tk 0 ?_ ?_ hH ?_ (hQ:=by exact fun _ _ _ h=>HQP.out _ _ _ _ _ h);rotate_left 2
    refine Late.tk 4 ?_ ?_ hH ?_ (hQ:=by exact fun _ _ _ h=>HQP.out _ _ _ _ _ h);rotate_left 2
    rotate_left
    any_goals (intro wy hSw;(try dsimp only at hSw);have hH:=HT.out.2.2.2.new hSw;have b0:wy.cell? ⟨sb,0,none⟩=some _:=hH.state.cell 0;have b1:wy.cell? ⟨sb,1,none⟩=some _:=hH.state.cell 1;have b2:wy.cell? ⟨sb,2,none⟩=some _:=hH.state.cell 2;obtain ⟨d0,d1,d2,d3,d4⟩:=HD.out _ hH.below;clear hH;go_simp;try (with_reducible rfl))
    try simp only [Act.put,List.setIfInBounds_toArray,List.set_cons_zero,List.set_cons_succ]
    have HBA:=Lib.hid ((Below.refl w3.heap.size w3).drew)
    obtain ⟨wA,hwA⟩:∃ V,V=w3.drew:=⟨_,rfl⟩
    rw [← hwA] at HBA ⊢
    clear hwA
    refine Late.Goes.two (i:=5) (j:=9) (by kernel_rfl) (by simp only [List.getElem?_toArray,List.getElem?_cons_succ,List.getElem?_cons_zero];rfl) (by simp only [List.getElem?_toArray,List.getElem?_cons_succ,List.getElem?_cons_zero];rfl) (fun K hK=>?_) (fun K hK=>?_) <;> clear hH
    ·skip
     go_simp
     go_at_call 11
     refine (cDn wA).mono ?_
     rintro e wd ⟨⟨aN,nN,cN,rfl,hnN,hrN⟩,hbd⟩
     have HX0:=Lib.hid (And.intro hnN hrN)
     clear hnN hrN
     have hbe:=HBA.out.trans (hbd.mono HBA.out.size)
     clear hbd
     refine hK.out _ _ ?_ (fun hH=>?_)
     ·exact fun _=>hbe
     clear hK K
     have hH:=hH rfl
     try simp only [Act.put,List.setIfInBounds_toArray,List.set_cons_zero,List.set_cons_succ]
     refine Late.tk 6 ?_ ?_ hH ?_ (hQ:=by exact fun _ _ _ h=>HQP.out _ _ _ _ _ h);rotate_left 2
     refine Late.tk 7 ?_ ?_ hH ?_ (hQ:=by exact fun _ _ _ h=>HQP.out _ _ _ _ _ h);rotate_left 2
     refine Late.tk 8 ?_ ?_ hH ?_ (hQ:=by exact fun _ _ _ h=>HQP.out _ _ _ _ _ h);rotate_left 2
     rotate_left
     any_goals (intro wy hSw;(try dsimp only at hSw);have hH:=HT.out.2.2.2.new hSw;have b0:wy.cell? ⟨sb,0,none⟩=some _:=hH.state.cell 0;have b1:wy.cell? ⟨sb,1,none⟩=some _:=hH.state.cell 1;have b2:wy.cell? ⟨sb,2,none⟩=some _:=hH.state.cell 2;obtain ⟨d0,d1,d2,d3,d4⟩:=HD.out _ hH.below;clear hH;go_simp;try (with_reducible rfl))
     try simp only [Act.put,List.setIfInBounds_toArray,List.set_cons_zero,List.set_cons_succ]
     refine Late.Goes.one (i:=9) (by kernel_rfl) (by simp only [List.getElem?_toArray,List.getElem?_cons_succ,List.getElem?_cons_zero];rfl) (fun K hK=>?_)
     clear hH
     go_simp
     have hbf:=hbe.alloc hbe.size (.cells #[.slice none 0 0,.int .i64 0,.bool false] 36)
     refine hK.out _ _ ?_ (fun hH=>?_)
     ·exact fun _=>hbf
     clear hK K
     have hH:=hH rfl
     try simp only [Act.put,List.setIfInBounds_toArray,List.set_cons_zero,List.set_cons_succ]
     refine Late.Goes.one (i:=10) (by kernel_rfl) (by simp only [List.getElem?_toArray,List.getElem?_cons_succ,List.getElem?_cons_zero];rfl) (fun K hK=>?_)
     clear hH
     go_simp
     have hbn:=hbe.alloc hbe.size (.cells #[.slice aN nN cN,.int .i64 (-1),.bool false] 36)
     have hxn:Disk.Blk (wd.alloc (.cells #[.slice aN nN cN,.int .i64 (-1),.bool false] 36)) wd.heap.size 36 #[.slice aN nN cN,.int .i64 (-1),.bool false]:=Disk.Blk.new _ _ _
     obtain ⟨wn,hwn⟩:∃ V,V=wd.alloc (.cells #[.slice aN nN cN,.int .i64 (-1),.bool false] 36):=⟨_,rfl⟩
     obtain ⟨q,hq⟩:∃ q,q=wd.heap.size:=⟨_,rfl⟩
     have HX:=Lib.hid (show nN=(ls.drop nb).length∧LRow w w3 sb (foot lb g vz F1) aN cN (ls.drop nb) from HX0.out)
     rw [← hwn] at hbn hxn ⊢
     rw [← hq] at hxn ⊢
     have HN:=Lib.hid (And.intro hbn (And.intro hxn (show w3.heap.size≤q by rw [hq];exact hbe.size)))
     clear hbe hbf hbn hxn hwn hq
     refine hK.out _ _ ?_ (fun hH=>?_)
     ·exact fun _=>HN.out.1
     clear hK K
     have hH:=hH rfl
     try simp only [Act.put,List.setIfInBounds_toArray,List.set_cons_zero,List.set_cons_succ]
     refine Late.tk 11 ?_ ?_ hH ?_ (hQ:=by exact fun _ _ _ h=>HQP.out _ _ _ _ _ h);rotate_left 2
     rotate_left
     any_goals (intro wy hSw;(try dsimp only at hSw);have hH:=HT.out.2.2.2.new hSw;have b0:wy.cell? ⟨sb,0,none⟩=some _:=hH.state.cell 0;have b1:wy.cell? ⟨sb,1,none⟩=some _:=hH.state.cell 1;have b2:wy.cell? ⟨sb,2,none⟩=some _:=hH.state.cell 2;obtain ⟨d0,d1,d2,d3,d4⟩:=HD.out _ hH.below;clear hH;go_simp;try (with_reducible rfl))
     try simp only [Act.put,List.setIfInBounds_toArray,List.set_cons_zero,List.set_cons_succ]
     refine Late.Goes.done (by kernel_rfl) ?_ _
     (try dsimp only)
     go_wp2_with fail
     go_meet
     case rel=>exact ⟨q,aN,nN,cN,rfl,rfl,HN.out.1,HN.out.2.1,HN.out.2.2,HX.out⟩
    ·skip
     go_simp
     have hal:=HBA.out.alloc HBA.out.size (.cells #[.slice none 0 0,.int .i64 0,.bool false] 36)
     have hx0:Disk.Blk (wA.alloc (.cells #[.slice none 0 0,.int .i64 0,.bool false] 36)) wA.heap.size 36 #[.slice none 0 0,.int .i64 0,.bool false]:=Disk.Blk.new _ _ _
     obtain ⟨wB,hwB⟩:∃ V,V=wA.alloc (.cells #[.slice none 0 0,.int .i64 0,.bool false] 36):=⟨_,rfl⟩
     obtain ⟨q,hq⟩:∃ q,q=wA.heap.size:=⟨_,rfl⟩
     rw [← hwB] at hal hx0 ⊢
     rw [← hq] at hx0 ⊢
     have hqW:w3.heap.size≤q:=by rw [hq];exact HBA.out.size
     clear hwB hq
     refine hK.out _ _ ?_ (fun hH=>?_)
     ·exact fun _=>hal
     clear hK K
     have hH:=hH rfl
     try simp only [Act.put,List.setIfInBounds_toArray,List.set_cons_zero,List.set_cons_succ]
     refine Late.Goes.one (i:=5) (by kernel_rfl) (by simp only [List.getElem?_toArray,List.getElem?_cons_succ,List.getElem?_cons_zero];rfl) (fun K hK=>?_)
     clear hH
     go_simp
     go_at_call 11
     refine (cDn wB).mono ?_
     rintro e wd ⟨⟨aN,nN,cN,rfl,hnN,hrN⟩,hbd⟩
     have HX0:=Lib.hid (And.intro hnN hrN)
     clear hnN hrN
     have hbe:=hal.trans (hbd.mono hal.size)
     have hx1:=hx0.but (But.of_new hbd (S:=fun _=>False)) (fun h=>h)
     clear hbd hal hx0
     refine hK.out _ _ ?_ (fun hH=>?_)
     ·exact fun _=>hbe
     clear hK K
     have hH:=hH rfl
     try simp only [Act.put,List.setIfInBounds_toArray,List.set_cons_zero,List.set_cons_succ]
     refine Late.tk 6 ?_ ?_ hH ?_ (hQ:=by exact fun _ _ _ h=>HQP.out _ _ _ _ _ h);rotate_left 2
     refine Late.tk 7 ?_ ?_ hH ?_ (hQ:=by exact fun _ _ _ h=>HQP.out _ _ _ _ _ h);rotate_left 2
     refine Late.tk 8 ?_ ?_ hH ?_ (hQ:=by exact fun _ _ _ h=>HQP.out _ _ _ _ _ h);rotate_left 2
     rotate_left
     any_goals (intro wy hSw;(try dsimp only at hSw);have hH:=HT.out.2.2.2.new hSw;have b0:wy.cell? ⟨sb,0,none⟩=some _:=hH.state.cell 0;have b1:wy.cell? ⟨sb,1,none⟩=some _:=hH.state.cell 1;have b2:wy.cell? ⟨sb,2,none⟩=some _:=hH.state.cell 2;obtain ⟨d0,d1,d2,d3,d4⟩:=HD.out _ hH.below;clear hH;go_simp;try (with_reducible rfl))
     try simp only [Act.put,List.setIfInBounds_toArray,List.set_cons_zero,List.set_cons_succ]
     refine Late.Goes.one (i:=10) (by kernel_rfl) (by simp only [List.getElem?_toArray,List.getElem?_cons_succ,List.getElem?_cons_zero];rfl) (fun K hK=>?_)
     clear hH
     have z0:wd.cell? ⟨q,0,none⟩=some (.slice none 0 0):=hx1.cell 0
     have z1:wd.cell? ⟨q,1,none⟩=some (.int .i64 0):=hx1.cell 1
     have z2:wd.cell? ⟨q,2,none⟩=some (.bool false):=hx1.cell 2
     have y0:wd.frozen? ⟨q,0,none⟩=false:=hx1.frozen 0
     have y1:wd.frozen? ⟨q,1,none⟩=false:=hx1.frozen 1
     have y2:wd.frozen? ⟨q,2,none⟩=false:=hx1.frozen 2
     go_simp
     clear z0 z1 z2 y0 y1 y2
     obtain ⟨wn,hwn⟩:∃ V,V=((wd.setCell ⟨q,0,none⟩ (.slice aN nN cN)).setCell ⟨q,1,none⟩ (.int .i64 (-1))).setCell ⟨q,2,none⟩ (.bool false):=⟨_,rfl⟩
     have HN:=Lib.hid (show Below w3.heap.size w3 wn∧Disk.Blk wn q 36 #[.slice aN nN cN,.int .i64 (-1),.bool false]∧w3.heap.size≤q from by rw [hwn];exact ⟨below_set3 hbe hqW _ _ _,((hx1.set_ 0 _).set_ 1 _).set_ 2 _,hqW⟩)
     have HX:=Lib.hid (show nN=(ls.drop nb).length∧LRow w w3 sb (foot lb g vz F1) aN cN (ls.drop nb) from HX0.out)
     rw [← hwn]
     clear hbe hx1 hwn hqW
     refine hK.out _ _ ?_ (fun hH=>?_)
     ·exact fun _=>HN.out.1
     clear hK K
     have hH:=hH rfl
     try simp only [Act.put,List.setIfInBounds_toArray,List.set_cons_zero,List.set_cons_succ]
     refine Late.tk 11 ?_ ?_ hH ?_ (hQ:=by exact fun _ _ _ h=>HQP.out _ _ _ _ _ h);rotate_left 2
     rotate_left
     any_goals (intro wy hSw;(try dsimp only at hSw);have hH:=HT.out.2.2.2.new hSw;have b0:wy.cell? ⟨sb,0,none⟩=some _:=hH.state.cell 0;have b1:wy.cell? ⟨sb,1,none⟩=some _:=hH.state.cell 1;have b2:wy.cell? ⟨sb,2,none⟩=some _:=hH.state.cell 2;obtain ⟨d0,d1,d2,d3,d4⟩:=HD.out _ hH.below;clear hH;go_simp;try (with_reducible rfl))
     try simp only [Act.put,List.setIfInBounds_toArray,List.set_cons_zero,List.set_cons_succ]
     refine Late.Goes.done (by kernel_rfl) ?_ _
     (try dsimp only)
     go_wp2_with fail
     go_meet
     case rel=>exact ⟨q,aN,nN,cN,rfl,rfl,HN.out.1,HN.out.2.1,HN.out.2.2,HX.out⟩
   case rest =>
    obtain ⟨q,aN,nN,cN,rfl,rfl,hbn,hqb,hqn,hqx⟩:=hcut
    rename World=>wn
    have HN:=Lib.hid (And.intro hbn (And.intro hqb hqn))
    have HQX:=Lib.hid hqx
    clear hbn hqb hqn hqx
    have hH5:=HT.out.2.2.2.new HN.out.1
    have hS5:=HT.out.1.below HN.out.1
    have hal:=(Below.refl wn.heap.size wn).alloc (Nat.le_refl _) (.cells #[.int .i64 0,.int .i64 0,.int .i64 0] 47)
    obtain ⟨wp,hwp⟩:∃ V,V=wn.alloc (.cells #[.int .i64 0,.int .i64 0,.int .i64 0] 47):=⟨_,rfl⟩
    rw [← hwp] at hal
    have H6:=Lib.hid (And.intro (hS5.below hal) (And.intro (hH5.new hal) (And.intro (HN.out.2.1.but (But.of_new hal (S:=fun _=>False)) (fun h=>h)) True.intro)))
    have HX:=Lib.hid ((HQX.out.2.new HN.out.1).new hal)
    have cB:=adopt_plan H6.out.1 HT.out.2.1 H0.out (by have h1:=HT.out.2.2.1;have h2:=HU.out;have h3:=tot_used S;have h4:=HT.out.2.1.many;omega)
    have HWP:=Lib.hid hwp
    clear hH5 hS5 hal hwp
    (try dsimp only)
    go_wp2_with fail
    rw [← HWP.out]
    refine cB.mono ?_
    rintro e w6 hBe
    clear cB
    rcases hBe with ⟨T2,rfl,⟨F2,g2,c2,vz2,hK,hS6,hV6⟩,ht6⟩|⟨T2,rfl,⟨F2,g2,c2,vz2,n2,bs2,bg2,z2,hK,hSf⟩,hpl,ht6,hfl⟩
    ·have hH6:=H6.out.2.1.kept hK hS6.lt_
     have hq6:=H6.out.2.2.1.but hK.foot_ (fun hf=>by have h1:=HT.out.2.2.2.lt q hf;have h2:=HN.out.2.2;omega)
     have hX6:=HX.out.step hK.foot_ (fun j hj=>foot_kept hK hj)
     have cD:=dsk_down hS6.dsk
     rw [hV6.lg.up.up] at cD
     have HQ6:=Lib.hid (And.intro hH6 (And.intro hq6 (And.intro hX6 (And.intro hS6 hV6))))
     clear hK hS6 hV6 ht6 hH6 hq6 hX6
     (try dsimp only)
     go_wp2_with fail
     refine cD.mono ?_
     rintro e w' ⟨rfl,hw'⟩
     rw [← hw']
     clear hw' cD
     have cE:=fun V=>Err.code_nil V
     (try dsimp only)
     go_wp2_with fail
     refine (cE _).mono ?_
     rintro e w' ⟨rfl,hw'⟩
     rw [← hw']
     clear hw' cE
     have hsf:=all_from (base:=base) HT.out.2.1.lg.num.rising HS.out.2.2.2.2.2.1
     have hsl:(allSpots nums fr).length=ls.length:=by rw [spots_length,← HS.out.2.2.2.2.2.1,List.length_map]
     have hnN:nN=ls.length - nb:=by rw [HQX.out.1,List.length_drop]
     have hlb:=HNB.out.2.2
     obtain ⟨nS,hnS⟩:∃ n,n=(allSpots nums fr).length:=⟨_,rfl⟩
     obtain ⟨ssF,hssF⟩:∃ x,x=allSpots (from_ base nums) fr:=⟨_,rfl⟩
     have hsd:ssF=(allSpots nums fr).drop nb:=by rw [hssF,hsf.2.2,HNB.out.1]
     have hlF:ssF.length=nS - nb:=by rw [hsd,List.length_drop,hnS]
     have hk52:nS≤60:=by have:=HS.out.2.2.2.2.2.2;have:=HLIM.out.2.2.1;omega
     have hw1:IntKind.i64.wrap ((nS:Int) - (nN:Int))=(nb:Int):=by rw [IntKind.wrap_i64];omega
     have hbS:nb≤nS:=by omega
     have HF0:=Lib.hid (And.intro hnS (And.intro hssF (And.intro hsd (And.intro hlF (And.intro hnN hsl)))))
     rw [← hnS]
     have z0:w6.cell? ⟨q,0,none⟩=some (.slice aN nN cN):=HQ6.out.2.1.cell 0
     clear hsf hsl hnN hlb hnS hssF hsd hlF
     (try dsimp only)
     go_upto_region 39 with (fail)
     go_cut [11] from 183 to 190 (fun s11 wx=>∃ aS nF cS,s11 = .slice aS nF cS∧nF=ssF.length∧Held w wx sb (foot lb g2 vz2 F2) a1 cp1 ls (baseN base nums fr) begun aS cS ssF∧w6=wx)
     case first =>
      rcases aq with _|⟨gq,oq,sq⟩
      ·have hcq:=HQ6.out.1.snil rfl
       have hq0:=HQ6.out.1.scap.1
       have hS0:nS=0:=by rw [HF0.out.1];omega
       have hb0:nb=0:=by omega
       have hN0:nN=0:=by have h1:=HF0.out.2.2.2.2.1;have h2:=HF0.out.2.2.2.2.2;have h3:=HF0.out.1;omega
       have hw0:IntKind.i64.wrap 0=0:=by decide
       have hHr:Held w w6 sb (foot lb g2 vz2 F2) a1 cp1 ls (baseN base nums fr) begun none 0 ssF:=by
        have h1:=HQ6.out.1
        rw [hcq] at h1
        have e:ssF=allSpots nums fr:=by rw [HF0.out.2.2.1,hb0,List.drop_zero]
        rw [e]
        exact h1
       have HE:=Lib.hid hHr
       have HL:=Lib.hid (show 0=ssF.length by rw [HF0.out.2.2.2.1];omega)
       clear hHr hq0
       subst hcq hS0 hb0 hN0
       (try dsimp only)
       (try dsimp only)
       go_wp2_with fail
       go_meet
       case rel=>exact ⟨none,0,0,rfl,HL.out,HE.out,rfl⟩
      ·have hsq:=HQ6.out.1.sone _ rfl
       simp only at hsq
       subst hsq
       by_cases hlq:nb < cq
       ·have HE:=Lib.hid (HQ6.out.1.sdrop (m:=nb) (by rw [← HF0.out.1];exact hbS))
        have hcq:nS≤cq:=by rw [HF0.out.1];exact HQ6.out.1.scap.1
        (try dsimp only)
        (try dsimp only)
        go_wp2_with fail
        go_meet
        case rel=>exact ⟨_,_,_,rfl,HF0.out.2.2.2.1.symm,by rw [HF0.out.2.2.1];exact HE.out,rfl⟩
       ·have hcq:nS≤cq:=by rw [HF0.out.1];exact HQ6.out.1.scap.1
        have e1:cq=nb:=by omega
        have e2:nS=nb:=by omega
        have e3:ssF=[]:=List.eq_nil_of_length_eq_zero (by rw [HF0.out.2.2.2.1];omega)
        have HE:=Lib.hid (HQ6.out.1.snone)
        have HL:=Lib.hid e3
        clear hcq hlq e3
        subst e1 e2
        (try dsimp only)
        (try dsimp only)
        go_wp2_with fail
        go_meet
        case rel=>exact ⟨_,_,_,rfl,by rw [HL.out];rfl,by rw [HL.out];exact HE.out,rfl⟩
     case rest =>
      obtain ⟨aS,nF,cS,rfl,hnF,hHS,rfl⟩:=hcut
      obtain ⟨wZ,hwZ⟩:∃ V,V=(((w6.setCell ⟨sb,0,none⟩ (.slice aN nN cN)).setCell ⟨sb,1,none⟩ (.int .i64 (-1))).setCell ⟨sb,2,none⟩ (.bool false)):=⟨_,rfl⟩
      have HK:=Lib.hid (show Pk w wZ p sb limit cap k lb T2 (from_ base nums) 0 false fr i F2 g2 c2 vz2 aN cN (ls.drop nb) aS cS ssF from by
       rw [hwZ,HQX.out.1]
       exact adopt_pk HQ6.out.2.2.2.1 HQ6.out.2.2.2.2 HT.out.2.1.lg.num.rising hHS HF0.out.2.1 HS.out.2.2.2.2.2.1 HNB.out.1 HQ6.out.2.2.1 HS.out.2.2.1 HS.out.2.2.2.2.2.2)
      have HWZ:=Lib.hid hwZ
      have HNF:=Lib.hid hnF
      have z0:w6.cell? ⟨q,0,none⟩=some (.slice aN nN cN):=HQ6.out.2.1.cell 0
      have z1:w6.cell? ⟨q,1,none⟩=some (.int .i64 (-1)):=HQ6.out.2.1.cell 1
      have z2:w6.cell? ⟨q,2,none⟩=some (.bool false):=HQ6.out.2.1.cell 2
      have b0:w6.cell? ⟨sb,0,none⟩=some (.slice a1 ls.length cp1):=HQ6.out.1.state.cell 0
      have b1:w6.cell? ⟨sb,1,none⟩=some (.int .i64 (baseN base nums fr)):=HQ6.out.1.state.cell 1
      have b2:w6.cell? ⟨sb,2,none⟩=some (.bool begun):=HQ6.out.1.state.cell 2
      have f0:w6.frozen? ⟨sb,0,none⟩=false:=HQ6.out.1.state.frozen 0
      have f1:w6.frozen? ⟨sb,1,none⟩=false:=HQ6.out.1.state.frozen 1
      have f2:w6.frozen? ⟨sb,2,none⟩=false:=HQ6.out.1.state.frozen 2
      clear hwZ hnF hHS
      have cO:=dsk_open HK.out.sys.dsk
      (try dsimp only)
      go_wp2_with fail
      (try rw [← HWZ.out])
      refine cO.mono ?_
      rintro e w8 ⟨rfl,hN8⟩
      have HK8:=Lib.hid (HK.out.open hN8)
      clear cO hN8
      have b0:w8.cell? ⟨sb,0,none⟩=some (.slice aN (ls.drop nb).length cN):=HK8.out.held.state.cell 0
      have b1:w8.cell? ⟨sb,1,none⟩=some (.int .i64 (baseN 0 (from_ base nums) fr)):=HK8.out.held.state.cell 1
      have b2:w8.cell? ⟨sb,2,none⟩=some (.bool false):=HK8.out.held.state.cell 2
      rw [← HQX.out.1] at b0
      have cW:=HK8.out.whole (by have:=HLIM.out.2.2.1;omega)
      unfold stV at cW
      rw [← HQX.out.1,← HNF.out] at cW
      (try dsimp only)
      go_wp2_with fail
      refine cW.mono ?_
      rintro e w9z ⟨rfl,hb9z⟩
      clear cW b0 b1 b2
      have HPR:=Lib.hid ((HK8.out.below hb9z).prel (N0:=N0) hlt)
      have HPR:=Lib.hid (by have h:=HPR.out;rw [← HNF.out] at h;exact h)
      clear hb9z
      have hk50:k < 50:=by have:=HLIM.out.2.2.1;omega
      (try dsimp only)
      go_wp2_with fail
      exact HBACK.out _ _ _ _ _ _ _ _ _ _ _ _ _ _ _ _ _ _ _ _ _ _ _ _ _ _ _ _ _ _ _ _ _ _ _ _ _ _ _ _ _ _ _ _ _ _ _ _ _ _ _ _ _ _ _ _ _ _ _ _ _ _ _ _ _ _ _ _ _ _ _ _ _ _ _ _ _ _ _ _ _ _ _ _ _ _ _ _ _ _ _ _ _ _ _ _ _ _ _ _ _ _ _ _ _ _ _ _ _ _ _ _ _ _ _ _ _ _ _ _ _ _ _ _ _ _ _ _ _ _ _ _ _ _ _ _ _ _ _ _ _ _ _ _ _ _ _ _ _ _ _ _ _ _ _ _ _ _ _ _ _ _ _ _ _ _ _ _ _ _ _ _ _ _ _ _ _ _ _ _ _ _ _ _ _ _ _ _ _ _ _ _ _ _ _ _ _ _ _ _ _ _ _ _ _ _ _ _ _ _ _ _ _ _ _ _ _ _ _ _ HPR.out
    ·rcases hfl with ⟨hd4,ns,fr4,hB4,hN4,hall⟩|⟨hd4,ns,fr4,hB4,hN4,hall⟩
     ·skip
      have hH6:=H6.out.2.1.kept hK hSf.lt_
      have hq6:=H6.out.2.2.1.but hK.foot_ (fun hf=>by have h1:=HT.out.2.2.2.lt q hf;have h2:=HN.out.2.2;omega)
      have hqF:¬ F2 q:=fun hf=>by
       rcases hK.sub q hf with h1|h1
       ·have h2:=HT.out.2.2.2.lt q (.inl h1)
        have h3:=HN.out.2.2
        omega
       ·have h2:=H6.out.2.2.1.lt
        have h3:=h1.1
        omega
      have hH4:Held w w6 sb F2 a1 cp1 ls (baseN base nums fr) begun aq cq (allSpots nums fr):=hH6.step (But.refl _ _) (fun j hj => .inl (.inl hj)) (fun j hj=>hSf.lt_ j (.inl hj))
      have HF:=Lib.hid (And.intro hSf (And.intro hd4 (And.intro hB4 (And.intro hN4 (And.intro hall (And.intro hH4 (And.intro hq6 (And.intro hqF ht6))))))))
      clear hK hSf hd4 hB4 hN4 hall hH6 hH4 hq6 hqF ht6 hpl
      have cD:=dsk_down HF.out.1.dsk
      rw [HF.out.2.1] at cD
      rw [errV_bad (show (15:Int)≠0 by decide)]
      have ke:=Err.code_neq 15 15
      (try dsimp only)
      go_wp2_with fail
      skip
      refine cD.mono ?_
      rintro e w' ⟨rfl,hw'⟩
      rw [← hw']
      clear hw' cD
      (try dsimp only)
      go_wp2_with fail
      refine (drop_one _).mono ?_
      rintro e w7 ⟨ad,cd,rfl,hRd,hb7⟩
      have cF:=append_failed (cap:=cd) (HF.out.1.below hb7) hRd (by simp) ex_ok rfl
      unfold spV at cF
      rw [errV_bad (show (15:Int)≠0 by decide)] at cF
      have HF7:=Lib.hid (And.intro (HF.out.1.below hb7) (And.intro (HF.out.2.2.2.2.2.1.new hb7) (HF.out.2.2.2.2.2.2.1.but (But.of_new hb7 (S:=fun _=>False)) (fun h=>h))))
      clear hRd hb7
      (try dsimp only)
      go_wp2_with fail
      refine cF.mono ?_
      rintro e w7b ⟨rfl,hb7b⟩
      clear cF
      have halS:=hb7b.alloc hb7b.size (.cells #[.int .i64 0,.int .i64 0,.int .i64 0] 47)
      obtain ⟨wS,hwS⟩:∃ V,V=w7b.alloc (.cells #[.int .i64 0,.int .i64 0,.int .i64 0] 47):=⟨_,rfl⟩
      rw [← hwS] at halS
      have HWS:=Lib.hid hwS
      have HS7:=Lib.hid (And.intro (HF7.out.1.below halS) (And.intro (HF7.out.2.1.new halS) (HF7.out.2.2.but (But.of_new halS (S:=fun _=>False)) (fun h=>h))))
      have cO:=dsk_open HS7.out.1.dsk
      clear hb7b halS hwS
      (try dsimp only)
      go_wp2_with fail
      rw [← HWS.out]
      refine cO.mono ?_
      rintro e w8 ⟨rfl,hN8⟩
      clear cO
      have hH8:=HS7.out.2.1.step (hN8.2.mono (fun j _ hj=>hj)) (H':=grow F2 wS w8) (fun j hj=>by
       rcases hj with h1|h1
       ·exact .inl h1
       ·exact .inr h1.1) hN8.1.lt
      have hq8:=HS7.out.2.2.but hN8.2 HF.out.2.2.2.2.2.2.2.1
      have HF8:=Lib.hid (And.intro hN8.1 (And.intro hH8 hq8))
      have cR:=reopen_log (N:=i+1) HF8.out.1 HF.out.2.2.1 HF.out.2.2.2.1 (by have:=HS.out.2.2.1;have:=HLIM.out.2.2.1;omega) HLIM.out.1.1 (by have:=HLIM.out.1.2;omega) (by have h1:=low_length HF.out.2.2.1.num.rising HF.out.2.2.1.low;have h2:=HT.out.2.2.1;have h3:=HU.out;have h4:=tot_used S;have h5:=HF.out.2.2.2.2.2.2.2.2;have h6:=HT.out.2.1.many;show ((tot T2.files+(15+4 * ns.length):Nat):Int)≤cap;omega)
      clear hN8 hH8 hq8
      (try dsimp only)
      go_wp2_with fail
      refine cR.mono ?_
      rintro e w9 hRe
      clear cR
      rcases hRe with ⟨T4,lb4,F4,g4,c4,ap,cp4,aq4,cq4,vz4,gs,ss4,L4,rfl,hS4,hV4,hpl4,ht4,hf4,hb4,⟨OB,hOB,hop,hoq⟩,hgr,hof,hgs,hss⟩|⟨T4,F4,hst4,hpl4,hfell,ht4,rfl⟩
      ·skip
       subst hss
       have hqg:¬ grow F2 wS w8 q:=fun h=>by
        rcases h with h|h
        ·exact HF.out.2.2.2.2.2.2.2.1 h
        ·have h1:=HS7.out.2.2.lt
         have h2:=h.1
         omega
       have hH9:=HF8.out.2.1.anew (fun j hj=>hj) hb4 hf4 hS4.lt_ hOB hoq (fun k hk=>hof k (.inr hk))
       have hq9:=HF8.out.2.2.but hb4 hqg
       have HR:=Lib.hid (And.intro hS4 (And.intro hV4 (And.intro hH9 (And.intro hq9 (And.intro (pcs_of_rows hop (fun g hg=>(hgr g hg).1)) (And.intro hgs (HF.out.2.2.2.1 L4 (last_mem hV4.last))))))))
       clear hS4 hV4 hpl4 ht4 hf4 hb4 hOB hop hoq hgr hof hgs hqg hH9 hq9
       have b0:w9.cell? ⟨sb,0,none⟩=some (.slice a1 ls.length cp1):=HR.out.2.2.1.state.cell 0
       have b1:w9.cell? ⟨sb,1,none⟩=some (.int .i64 (baseN base nums fr)):=HR.out.2.2.1.state.cell 1
       have b2:w9.cell? ⟨sb,2,none⟩=some (.bool begun):=HR.out.2.2.1.state.cell 2
       have cQ:=opened_held HT.out.2.1 HR.out.2.2.1 HS.out.2.2.2.2.2.1
       unfold stV at cQ
       obtain ⟨lsA,hlsA⟩:∃ x,x=ls.take (all (kept base nums) fr).length:=⟨_,rfl⟩
       obtain ⟨nA,hnA⟩:∃ x,x=lsA.length:=⟨_,rfl⟩
       rw [← hlsA,← hnA] at cQ
       have hkA:=kept_all HT.out.2.1 HS.out.2.2.2.2.2.1
       have hrA:=HR.out.2.2.1.rows_front hkA.2
       rw [← hlsA] at hkA hrA
       have hnAl:nA≤ls.length:=by rw [hnA,hlsA,List.length_take];omega
       have HLA:=Lib.hid (And.intro hnA (And.intro hkA.1 (And.intro hrA hnAl)))
       clear hlsA hnA hkA hrA hnAl
       (try dsimp only)
       go_wp2_with fail
       refine cQ.mono ?_
       rintro e w10 ⟨rfl,hb10⟩
       clear cQ b0 b1 b2
       obtain ⟨wA,hwA⟩:∃ V,V=w10.alloc (.cells #[.slice a1 nA cp1,.int .i64 (-1),.bool begun] 36):=⟨_,rfl⟩
       obtain ⟨qa,hqa⟩:∃ x,x=w10.heap.size:=⟨_,rfl⟩
       have hxa:Disk.Blk wA qa 36 #[.slice a1 nA cp1,.int .i64 (-1),.bool begun]:=by rw [hwA,hqa];exact Disk.Blk.new _ _ _
       have hbA:Below w9.heap.size w9 wA:=by rw [hwA];exact hb10.alloc hb10.size _
       have hqA:=HR.out.2.2.2.1.but (But.of_new hbA (S:=fun _=>False)) (fun h=>h)
       have HA:=Lib.hid (And.intro hxa (And.intro hbA hqA))
       have z0:wA.cell? ⟨q,0,none⟩=some (.slice aN nN cN):=HA.out.2.2.cell 0
       have z1:wA.cell? ⟨q,1,none⟩=some (.int .i64 (-1)):=HA.out.2.2.cell 1
       have z2:wA.cell? ⟨q,2,none⟩=some (.bool false):=HA.out.2.2.cell 2
       rw [hwA] at z0 z1 z2
       have HWA:=Lib.hid (And.intro hwA hqa)
       have cN:=fun V=>opened_no aN nN cN (-1) false (by omega) V
       unfold stV at cN
       have HNB:=Lib.hid (show nN=(ls.drop nb).length from HQX.out.1)
       clear hwA hqa hxa hbA hqA hb10
       (try dsimp only)
       go_wp2_with fail
       (try rw [← HWA.out.1])
       (try rw [← HWA.out.2])
       refine (cN _).mono ?_
       rintro e w11 ⟨rfl,hb11⟩
       clear cN z0 z1 z2
       obtain ⟨wB,hwB⟩:∃ V,V=w11.alloc (.cells #[.slice aN nN cN,.int .i64 (-1),.bool false] 36):=⟨_,rfl⟩
       obtain ⟨qb,hqb⟩:∃ x,x=w11.heap.size:=⟨_,rfl⟩
       have hxb:Disk.Blk wB qb 36 #[.slice aN nN cN,.int .i64 (-1),.bool false]:=by rw [hwB,hqb];exact Disk.Blk.new _ _ _
       have hbB:Below wA.heap.size wA wB:=by rw [hwB];exact hb11.alloc hb11.size _
       have hxa2:=HA.out.1.but (But.of_new hbB (S:=fun _=>False)) (fun h=>h)
       have HB:=Lib.hid (And.intro hxb (And.intro hxa2 (HA.out.2.1.trans (hbB.mono HA.out.2.1.size))))
       have y0:wB.cell? ⟨qa,0,none⟩=some (.slice a1 nA cp1):=HB.out.2.1.cell 0
       have y1:wB.cell? ⟨qa,1,none⟩=some (.int .i64 (-1)):=HB.out.2.1.cell 1
       have y2:wB.cell? ⟨qa,2,none⟩=some (.bool begun):=HB.out.2.1.cell 2
       rw [hwB] at y0 y1 y2
       have HWB:=Lib.hid (And.intro hwB hqb)
       clear hwB hqb hxb hbB hxa2 hb11
       have hH12:=HR.out.2.2.1.new HB.out.2.2
       have cAs:=as_row (ls:=lsA) (a':=a1) (ls':=lsA) (cp':=cp1) (cpp:=cp4) (HR.out.1.below HB.out.2.2) (HR.out.2.2.2.2.1.below HB.out.2.2) HR.out.2.2.2.2.2.1 (by rw [HF.out.2.2.2.2.1];exact HLA.out.2.1.symm) HLA.out.2.2.1.few (by have:=HLA.out.1;have:=HLA.out.2.2.2;have:=HS.out.2.2.2.2.2.2;have:=HLIM.out.2.2.1;omega) (HLA.out.2.2.1.new HB.out.2.2) hH12.below (by have:=HLA.out.1;have:=HLA.out.2.2.2;have:=HS.out.2.2.2.2.2.2;have:=HLIM.out.2.2.1;omega) begun
       rw [← HLA.out.1] at cAs
       rw [show (decide (lsA.map (·.l)=lsA.map (·.l)) && (begun == begun))=true by simp] at cAs
       unfold stV at cAs
       clear hH12
       (try dsimp only)
       go_wp2_with fail
       (try rw [← HWB.out.1])
       (try rw [← HWB.out.2])
       refine cAs.mono ?_
       rintro e w12 ⟨rfl,hb12⟩
       clear cAs y0 y1 y2
       have hB12:=HB.out.2.2.trans (hb12.mono HB.out.2.2.size)
       have hx12:=HB.out.2.1.but (But.of_new hb12 (S:=fun _=>False)) (fun h=>h)
       have hH12:=HR.out.2.2.1.new hB12
       have y0:w12.cell? ⟨qa,0,none⟩=some (.slice a1 nA cp1):=hx12.cell 0
       have y1:w12.cell? ⟨qa,1,none⟩=some (.int .i64 (-1)):=hx12.cell 1
       have y2:w12.cell? ⟨qa,2,none⟩=some (.bool begun):=hx12.cell 2
       have b0:w12.cell? ⟨sb,0,none⟩=some (.slice a1 ls.length cp1):=hH12.state.cell 0
       have b1:w12.cell? ⟨sb,1,none⟩=some (.int .i64 (baseN base nums fr)):=hH12.state.cell 1
       have b2:w12.cell? ⟨sb,2,none⟩=some (.bool begun):=hH12.state.cell 2
       have f0:w12.frozen? ⟨sb,0,none⟩=false:=hH12.state.frozen 0
       have f1:w12.frozen? ⟨sb,1,none⟩=false:=hH12.state.frozen 1
       have f2:w12.frozen? ⟨sb,2,none⟩=false:=hH12.state.frozen 2
       obtain ⟨wZ,hwZ⟩:∃ V,V=(((w12.setCell ⟨sb,0,none⟩ (.slice a1 nA cp1)).setCell ⟨sb,1,none⟩ (.int .i64 (-1))).setCell ⟨sb,2,none⟩ (.bool begun)):=⟨_,rfl⟩
       have HK:=Lib.hid (show Pk w wZ p sb limit cap k lb4 T4 ns 0 begun (only ns fr4) L4 F4 g4 c4 vz4 a1 cp1 lsA aq4 cq4 (allSpots ns fr4) from by
        rw [hwZ,HLA.out.1]
        exact fell_pk (HR.out.1.below hB12) HR.out.2.1 hH12 (HLA.out.2.2.1.new hB12) (by rw [HLA.out.2.1];exact HF.out.2.2.2.2.1.symm) (by have:=HR.out.2.2.2.2.2.2;have:=HS.out.2.2.1;omega) (by have:=HLA.out.1;have:=HLA.out.2.2.2;have:=HS.out.2.2.2.2.2.2;omega))
       have HWZ:=Lib.hid hwZ
       clear hwZ hx12 hH12 hB12 hb12
       have HK8:=Lib.hid HK.out
       have cW:=HK8.out.whole (by have:=HLIM.out.2.2.1;omega)
       unfold stV at cW
       rw [only_base,← HLA.out.1] at cW
       (try dsimp only)
       go_wp2_with fail
       (try rw [← HWZ.out])
       refine cW.mono ?_
       rintro e w9z ⟨rfl,hb9z⟩
       clear cW
       have HPR:=Lib.hid ((HK8.out.below hb9z).prel (N0:=N0) hlt)
       clear hb9z
       have hk50:k < 50:=by have:=HLIM.out.2.2.1;omega
       (try dsimp only)
       go_wp2_with fail
       exact HBACK.out _ _ _ _ _ _ _ _ _ _ _ _ _ _ _ _ _ _ _ _ _ _ _ _ _ _ _ _ _ _ _ _ _ _ _ _ _ _ _ _ _ _ _ _ _ _ _ _ _ _ _ _ _ _ _ _ _ _ _ _ _ _ _ _ _ _ _ _ _ _ _ _ _ _ _ _ _ _ _ _ _ _ _ _ _ _ _ _ _ _ _ _ _ _ _ _ _ _ _ _ _ _ _ _ _ _ _ _ _ _ _ _ _ _ _ _ _ _ _ _ _ _ _ _ _ _ _ _ _ _ _ _ _ _ _ _ _ _ _ _ _ _ _ _ _ _ _ _ _ _ _ _ _ _ _ _ _ _ _ _ _ _ _ _ _ _ _ _ _ _ _ _ _ _ _ _ _ _ _ _ _ _ _ _ _ _ _ _ _ _ _ _ _ _ _ _ _ _ _ _ _ _ _ _ _ _ _ _ _ _ _ _ _ _ _ _ _ _ _ _ HPR.out
      ·exact absurd rfl hpl4
     ·have HXL:=Lib.hid (show (ls.drop nb).map (·.l)=all (from_ base nums) fr from by rw [HNB.out.1];exact (all_from HT.out.2.1.lg.num.rising HS.out.2.2.2.2.2.1).1)
      have HXN:=Lib.hid (show (ls.drop nb).length≤k+1 from by rw [List.length_drop];have:=HS.out.2.2.2.2.2.2;omega)
      have hH6:=H6.out.2.1.kept hK hSf.lt_
      have hq6:=H6.out.2.2.1.but hK.foot_ (fun hf=>by have h1:=HT.out.2.2.2.lt q hf;have h2:=HN.out.2.2;omega)
      have hqF:¬ F2 q:=fun hf=>by
       rcases hK.sub q hf with h1|h1
       ·have h2:=HT.out.2.2.2.lt q (.inl h1)
        have h3:=HN.out.2.2
        omega
       ·have h2:=H6.out.2.2.1.lt
        have h3:=h1.1
        omega
      have hH4:Held w w6 sb F2 a1 cp1 ls (baseN base nums fr) begun aq cq (allSpots nums fr):=hH6.step (But.refl _ _) (fun j hj => .inl (.inl hj)) (fun j hj=>hSf.lt_ j (.inl hj))
      have hX6:=((HX.out.step hK.foot_ (fun j hj=>foot_kept hK hj)).step (But.refl _ _) (H':=F2) (fun j hj => .inl (.inl hj)))
      have HX6:=Lib.hid hX6
      clear hX6
      have HF:=Lib.hid (And.intro hSf (And.intro hd4 (And.intro hB4 (And.intro hN4 (And.intro hall (And.intro hH4 (And.intro hq6 (And.intro hqF ht6))))))))
      clear hK hSf hd4 hB4 hN4 hall hH6 hH4 hq6 hqF ht6 hpl
      have cD:=dsk_down HF.out.1.dsk
      rw [HF.out.2.1] at cD
      rw [errV_bad (show (15:Int)≠0 by decide)]
      have ke:=Err.code_neq 15 15
      (try dsimp only)
      go_wp2_with fail
      skip
      refine cD.mono ?_
      rintro e w' ⟨rfl,hw'⟩
      rw [← hw']
      clear hw' cD
      (try dsimp only)
      go_wp2_with fail
      refine (drop_one _).mono ?_
      rintro e w7 ⟨ad,cd,rfl,hRd,hb7⟩
      have cF:=append_failed (cap:=cd) (HF.out.1.below hb7) hRd (by simp) ex_ok rfl
      unfold spV at cF
      rw [errV_bad (show (15:Int)≠0 by decide)] at cF
      have HF7:=Lib.hid (And.intro (HF.out.1.below hb7) (And.intro (HF.out.2.2.2.2.2.1.new hb7) (HF.out.2.2.2.2.2.2.1.but (But.of_new hb7 (S:=fun _=>False)) (fun h=>h))))
      have HX7:=Lib.hid (HX6.out.new hb7)
      clear hRd hb7
      (try dsimp only)
      go_wp2_with fail
      refine cF.mono ?_
      rintro e w7b ⟨rfl,hb7b⟩
      clear cF
      have halS:=hb7b.alloc hb7b.size (.cells #[.int .i64 0,.int .i64 0,.int .i64 0] 47)
      obtain ⟨wS,hwS⟩:∃ V,V=w7b.alloc (.cells #[.int .i64 0,.int .i64 0,.int .i64 0] 47):=⟨_,rfl⟩
      rw [← hwS] at halS
      have HWS:=Lib.hid hwS
      have HS7:=Lib.hid (And.intro (HF7.out.1.below halS) (And.intro (HF7.out.2.1.new halS) (HF7.out.2.2.but (But.of_new halS (S:=fun _=>False)) (fun h=>h))))
      have HXS:=Lib.hid (HX7.out.new halS)
      have cO:=dsk_open HS7.out.1.dsk
      clear hb7b halS hwS
      (try dsimp only)
      go_wp2_with fail
      rw [← HWS.out]
      refine cO.mono ?_
      rintro e w8 ⟨rfl,hN8⟩
      clear cO
      have hH8:=HS7.out.2.1.step (hN8.2.mono (fun j _ hj=>hj)) (H':=grow F2 wS w8) (fun j hj=>by
       rcases hj with h1|h1
       ·exact .inl h1
       ·exact .inr h1.1) hN8.1.lt
      have hq8:=HS7.out.2.2.but hN8.2 HF.out.2.2.2.2.2.2.2.1
      have HX8:=Lib.hid (HXS.out.step (hN8.2.mono (fun j _ hj=>hj)) (H':=grow F2 wS w8) (fun j hj=>by
       rcases hj with h1|h1
       ·exact .inl h1
       ·exact .inr h1.1))
      have HF8:=Lib.hid (And.intro hN8.1 (And.intro hH8 hq8))
      have cR:=reopen_log (N:=i+1) HF8.out.1 HF.out.2.2.1 HF.out.2.2.2.1 (by have:=HS.out.2.2.1;have:=HLIM.out.2.2.1;omega) HLIM.out.1.1 (by have:=HLIM.out.1.2;omega) (by have h1:=low_length HF.out.2.2.1.num.rising HF.out.2.2.1.low;have h2:=HT.out.2.2.1;have h3:=HU.out;have h4:=tot_used S;have h5:=HF.out.2.2.2.2.2.2.2.2;have h6:=HT.out.2.1.many;show ((tot T2.files+(15+4 * ns.length):Nat):Int)≤cap;omega)
      clear hN8 hH8 hq8
      (try dsimp only)
      go_wp2_with fail
      refine cR.mono ?_
      rintro e w9 hRe
      clear cR
      rcases hRe with ⟨T4,lb4,F4,g4,c4,ap,cp4,aq4,cq4,vz4,gs,ss4,L4,rfl,hS4,hV4,hpl4,ht4,hf4,hb4,⟨OB,hOB,hop,hoq⟩,hgr,hof,hgs,hss⟩|⟨T4,F4,hst4,hpl4,hfell,ht4,rfl⟩
      ·skip
       subst hss
       have hqg:¬ grow F2 wS w8 q:=fun h=>by
        rcases h with h|h
        ·exact HF.out.2.2.2.2.2.2.2.1 h
        ·have h1:=HS7.out.2.2.lt
         have h2:=h.1
         omega
       have hH9:=HF8.out.2.1.anew (fun j hj=>hj) hb4 hf4 hS4.lt_ hOB hoq (fun k hk=>hof k (.inr hk))
       have hq9:=HF8.out.2.2.but hb4 hqg
       have HX9:=Lib.hid (HX8.out.step hb4 (H':=foot lb4 g4 vz4 F4) (fun j hj=>by
        rcases hf4 j hj with h1|h1
        ·exact .inl h1
        ·exact .inr h1.1))
       have HR:=Lib.hid (And.intro hS4 (And.intro hV4 (And.intro hH9 (And.intro hq9 (And.intro (pcs_of_rows hop (fun g hg=>(hgr g hg).1)) (And.intro hgs (HF.out.2.2.2.1 L4 (last_mem hV4.last))))))))
       clear hS4 hV4 hpl4 ht4 hf4 hb4 hOB hop hoq hgr hof hgs hqg hH9 hq9
       have b0:w9.cell? ⟨sb,0,none⟩=some (.slice a1 ls.length cp1):=HR.out.2.2.1.state.cell 0
       have b1:w9.cell? ⟨sb,1,none⟩=some (.int .i64 (baseN base nums fr)):=HR.out.2.2.1.state.cell 1
       have b2:w9.cell? ⟨sb,2,none⟩=some (.bool begun):=HR.out.2.2.1.state.cell 2
       have cQ:=opened_held HT.out.2.1 HR.out.2.2.1 HS.out.2.2.2.2.2.1
       unfold stV at cQ
       obtain ⟨lsA,hlsA⟩:∃ x,x=ls.take (all (kept base nums) fr).length:=⟨_,rfl⟩
       obtain ⟨nA,hnA⟩:∃ x,x=lsA.length:=⟨_,rfl⟩
       rw [← hlsA,← hnA] at cQ
       have hkA:=kept_all HT.out.2.1 HS.out.2.2.2.2.2.1
       have hrA:=HR.out.2.2.1.rows_front hkA.2
       rw [← hlsA] at hkA hrA
       have hnAl:nA≤ls.length:=by rw [hnA,hlsA,List.length_take];omega
       have HLA:=Lib.hid (And.intro hnA (And.intro hkA.1 (And.intro hrA hnAl)))
       have HNE:=Lib.hid (show (decide ((ls.drop nb).map (·.l)=lsA.map (·.l)) && (false == begun))=false from by rw [HS.out.2.2.2.1 H0.out];simp)
       clear hlsA hnA hkA hrA hnAl
       (try dsimp only)
       go_wp2_with fail
       refine cQ.mono ?_
       rintro e w10 ⟨rfl,hb10⟩
       clear cQ b0 b1 b2
       obtain ⟨wA,hwA⟩:∃ V,V=w10.alloc (.cells #[.slice a1 nA cp1,.int .i64 (-1),.bool begun] 36):=⟨_,rfl⟩
       obtain ⟨qa,hqa⟩:∃ x,x=w10.heap.size:=⟨_,rfl⟩
       have hxa:Disk.Blk wA qa 36 #[.slice a1 nA cp1,.int .i64 (-1),.bool begun]:=by rw [hwA,hqa];exact Disk.Blk.new _ _ _
       have hbA:Below w9.heap.size w9 wA:=by rw [hwA];exact hb10.alloc hb10.size _
       have hqA:=HR.out.2.2.2.1.but (But.of_new hbA (S:=fun _=>False)) (fun h=>h)
       have HA:=Lib.hid (And.intro hxa (And.intro hbA hqA))
       have z0:wA.cell? ⟨q,0,none⟩=some (.slice aN nN cN):=HA.out.2.2.cell 0
       have z1:wA.cell? ⟨q,1,none⟩=some (.int .i64 (-1)):=HA.out.2.2.cell 1
       have z2:wA.cell? ⟨q,2,none⟩=some (.bool false):=HA.out.2.2.cell 2
       rw [hwA] at z0 z1 z2
       have HWA:=Lib.hid (And.intro hwA hqa)
       have cN:=fun V=>opened_no aN nN cN (-1) false (by omega) V
       unfold stV at cN
       have HNB:=Lib.hid (show nN=(ls.drop nb).length from HQX.out.1)
       clear hwA hqa hxa hbA hqA hb10
       (try dsimp only)
       go_wp2_with fail
       (try rw [← HWA.out.1])
       (try rw [← HWA.out.2])
       refine (cN _).mono ?_
       rintro e w11 ⟨rfl,hb11⟩
       clear cN z0 z1 z2
       obtain ⟨wB,hwB⟩:∃ V,V=w11.alloc (.cells #[.slice aN nN cN,.int .i64 (-1),.bool false] 36):=⟨_,rfl⟩
       obtain ⟨qb,hqb⟩:∃ x,x=w11.heap.size:=⟨_,rfl⟩
       have hxb:Disk.Blk wB qb 36 #[.slice aN nN cN,.int .i64 (-1),.bool false]:=by rw [hwB,hqb];exact Disk.Blk.new _ _ _
       have hbB:Below wA.heap.size wA wB:=by rw [hwB];exact hb11.alloc hb11.size _
       have hxa2:=HA.out.1.but (But.of_new hbB (S:=fun _=>False)) (fun h=>h)
       have HB:=Lib.hid (And.intro hxb (And.intro hxa2 (HA.out.2.1.trans (hbB.mono HA.out.2.1.size))))
       have y0:wB.cell? ⟨qa,0,none⟩=some (.slice a1 nA cp1):=HB.out.2.1.cell 0
       have y1:wB.cell? ⟨qa,1,none⟩=some (.int .i64 (-1)):=HB.out.2.1.cell 1
       have y2:wB.cell? ⟨qa,2,none⟩=some (.bool begun):=HB.out.2.1.cell 2
       rw [hwB] at y0 y1 y2
       have HWB:=Lib.hid (And.intro hwB hqb)
       clear hwB hqb hxb hbB hxa2 hb11
       have hH12:=HR.out.2.2.1.new HB.out.2.2
       have cAs:=as_row (ls:=(ls.drop nb)) (a':=a1) (ls':=lsA) (cp':=cp1) (cpp:=cp4) (HR.out.1.below HB.out.2.2) (HR.out.2.2.2.2.1.below HB.out.2.2) HR.out.2.2.2.2.2.1 (by rw [HF.out.2.2.2.2.1];exact HXL.out.symm) HX9.out.few (by have:=HXN.out;have:=HLIM.out.2.2.1;omega) (HLA.out.2.2.1.new HB.out.2.2) hH12.below (by have:=HLA.out.1;have:=HLA.out.2.2.2;have:=HS.out.2.2.2.2.2.2;have:=HLIM.out.2.2.1;omega) begun
       rw [← HLA.out.1] at cAs
       rw [HNE.out] at cAs
       unfold stV at cAs
       clear hH12
       (try dsimp only)
       go_wp2_with fail
       (try rw [← HWB.out.1])
       (try rw [← HWB.out.2])
       refine cAs.mono ?_
       rintro e w12 ⟨rfl,hb12⟩
       clear cAs y0 y1 y2
       have hB12:=HB.out.2.2.trans (hb12.mono HB.out.2.2.size)
       have hxa12:=HB.out.1.but (But.of_new hb12 (S:=fun _=>False)) (fun h=>h)
       have hH12:=HR.out.2.2.1.new hB12
       have y0:w12.cell? ⟨qb,0,none⟩=some (.slice aN nN cN):=hxa12.cell 0
       have y1:w12.cell? ⟨qb,1,none⟩=some (.int .i64 (-1)):=hxa12.cell 1
       have y2:w12.cell? ⟨qb,2,none⟩=some (.bool false):=hxa12.cell 2
       have HH12:=Lib.hid (And.intro hH12 (And.intro hxa12 hB12))
       have cAt:=as_row (ls:=(ls.drop nb)) (a':=aN) (ls':=(ls.drop nb)) (cp':=cN) (cpp:=cp4) (HR.out.1.below hB12) (HR.out.2.2.2.2.1.below hB12) HR.out.2.2.2.2.2.1 (by rw [HF.out.2.2.2.2.1];exact HXL.out.symm) HX9.out.few (by have:=HXN.out;have:=HLIM.out.2.2.1;omega) (HX9.out.new hB12) hH12.below (by have:=HXN.out;have:=HLIM.out.2.2.1;omega) false
       rw [show (decide ((ls.drop nb).map (·.l)=(ls.drop nb).map (·.l)) && (false == false))=true by simp,← HNB.out] at cAt
       unfold stV at cAt
       clear hH12 hxa12 hB12 hb12
       (try dsimp only)
       go_wp2_with fail
       refine cAt.mono ?_
       rintro e w13 ⟨rfl,hb13⟩
       clear cAt y0 y1 y2
       have hx13:=HH12.out.2.1.but (But.of_new hb13 (S:=fun _=>False)) (fun h=>h)
       have hH13:=HH12.out.1.new hb13
       have hB13:=HH12.out.2.2.trans (hb13.mono HH12.out.2.2.size)
       have y0:w13.cell? ⟨qb,0,none⟩=some (.slice aN nN cN):=hx13.cell 0
       have y1:w13.cell? ⟨qb,1,none⟩=some (.int .i64 (-1)):=hx13.cell 1
       have y2:w13.cell? ⟨qb,2,none⟩=some (.bool false):=hx13.cell 2
       have b0:w13.cell? ⟨sb,0,none⟩=some (.slice a1 ls.length cp1):=hH13.state.cell 0
       have b1:w13.cell? ⟨sb,1,none⟩=some (.int .i64 (baseN base nums fr)):=hH13.state.cell 1
       have b2:w13.cell? ⟨sb,2,none⟩=some (.bool begun):=hH13.state.cell 2
       have f0:w13.frozen? ⟨sb,0,none⟩=false:=hH13.state.frozen 0
       have f1:w13.frozen? ⟨sb,1,none⟩=false:=hH13.state.frozen 1
       have f2:w13.frozen? ⟨sb,2,none⟩=false:=hH13.state.frozen 2
       obtain ⟨wZ,hwZ⟩:∃ V,V=(((w13.setCell ⟨sb,0,none⟩ (.slice aN nN cN)).setCell ⟨sb,1,none⟩ (.int .i64 (-1))).setCell ⟨sb,2,none⟩ (.bool false)):=⟨_,rfl⟩
       have HK:=Lib.hid (show Pk w wZ p sb limit cap k lb4 T4 ns 0 false (only ns fr4) L4 F4 g4 c4 vz4 aN cN (ls.drop nb) aq4 cq4 (allSpots ns fr4) from by
        rw [hwZ,HNB.out]
        exact fell_pk (HR.out.1.below hB13) HR.out.2.1 hH13 (HX9.out.new hB13) (by rw [HF.out.2.2.2.2.1];exact HXL.out) (by have:=HR.out.2.2.2.2.2.2;have:=HS.out.2.2.1;omega) HXN.out)
       have HWZ:=Lib.hid hwZ
       clear hwZ hx13 hH13 hB13 hb13
       have HK8:=Lib.hid HK.out
       have cW:=HK8.out.whole (by have:=HLIM.out.2.2.1;omega)
       unfold stV at cW
       rw [only_base,← HNB.out] at cW
       (try dsimp only)
       go_wp2_with fail
       (try rw [← HWZ.out])
       refine cW.mono ?_
       rintro e w9z ⟨rfl,hb9z⟩
       clear cW
       have HPR:=Lib.hid ((HK8.out.below hb9z).prel (N0:=N0) hlt)
       clear hb9z
       have hk50:k < 50:=by have:=HLIM.out.2.2.1;omega
       (try dsimp only)
       go_wp2_with fail
       exact HBACK.out _ _ _ _ _ _ _ _ _ _ _ _ _ _ _ _ _ _ _ _ _ _ _ _ _ _ _ _ _ _ _ _ _ _ _ _ _ _ _ _ _ _ _ _ _ _ _ _ _ _ _ _ _ _ _ _ _ _ _ _ _ _ _ _ _ _ _ _ _ _ _ _ _ _ _ _ _ _ _ _ _ _ _ _ _ _ _ _ _ _ _ _ _ _ _ _ _ _ _ _ _ _ _ _ _ _ _ _ _ _ _ _ _ _ _ _ _ _ _ _ _ _ _ _ _ _ _ _ _ _ _ _ _ _ _ _ _ _ _ _ _ _ _ _ _ _ _ _ _ _ _ _ _ _ _ _ _ _ _ _ _ _ _ _ _ _ _ _ _ _ _ _ _ _ _ _ _ _ _ _ _ _ _ _ _ _ _ _ _ _ _ _ _ _ _ _ _ _ _ _ _ _ _ _ _ _ _ _ _ _ _ _ _ _ _ _ _ _ _ _ HPR.out
      ·exact absurd rfl hpl4
end Go.Proofs.YtbhoknnjilidnaaGreatDoor.Seg
