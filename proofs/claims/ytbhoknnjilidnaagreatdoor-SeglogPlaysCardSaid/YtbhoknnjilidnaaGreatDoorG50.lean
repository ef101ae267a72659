/- SeglogPlays: a way of its loop's round (7). MADE BY gen-splays.py -/
import Derived.Test.YtbhoknnjilidnaaGreatDoorG46
import Derived.Test.YtbhoknnjilidnaaGreatDoorG47
import Derived.Deep.CutRange
set_option linter.unusedSimpArgs false
set_option linter.unusedVariables false
set_option maxHeartbeats 16000000
set_option maxRecDepth 1000000
namespace Go.Proofs.YtbhoknnjilidnaaGreatDoor.Seg
open Go.Proofs.YtbhoknnjilidnaaGreatDoor.Mem
open Go.Proofs.YtbhoknnjilidnaaGreatDoor.Disk (Nm File St Has grow errV tot planned opened)
open Go.Proofs.YtbhoknnjilidnaaGreatDoor.Rec (Rcd Recs Is okBody few_at)
open Go.Proofs.YtbhoknnjilidnaaGreatDoor.Torn (Gp gcells gpl Pcs Lists frames size ex ex_ok)
open Go.ChangeShapes Go.WideShapes Go.ChangeAt Go.RowKit
theorem splays_7 (w wr:World) (p sb:Nat) (limit cap:Int) (N0 k db doff dcp:Nat) (d:Dd) (hlim:100≤limit∧limit≤100000) (hcap:5000≤cap∧cap≤1000000) (hN:N0≤50) (hlt:k < N0) (hdc:∀ V,Below w.heap.size w V→V.cell? ⟨db,doff+k * 5,none⟩=some (.int .i64 d.what)∧V.cell? ⟨db,doff+k * 5+1,none⟩=some (.slice d.a d.l.length d.cap)∧V.cell? ⟨db,doff+k * 5+2,none⟩=some (.bool d.dn)∧V.cell? ⟨db,doff+k * 5+3,none⟩=some (.int .i64 d.ef)∧V.cell? ⟨db,doff+k * 5+4,none⟩=some (.int .i64 d.kp)) (hdb:db < w.heap.size) (hok:OkDd w d)
  (lb:Nat) (aq:Option Addr) (cq:Nat) (S:St) (nums:List Nat) (base:Nat) (begun:Bool) (fr:Nat→List (List Rcd)) (i:Nat) (F:Nat→Prop) (g c:Nat) (vz:Value) (a1:Option Addr) (cp1:Nat) (ls:List Torn.Lg)
  (hS:SysAt wr p lb S limit nums base begun (szs nums fr) false F g c vz) (hV:Lv S cap nums base begun fr i) (hik:i≤k+1) (hbb:base≠0→begun=true) (hH:Held w wr sb (foot lb g vz F) a1 cp1 ls (baseN base nums fr) begun aq cq (allSpots nums fr)) (hls:ls.map (·.l)=all nums fr) (hlk:ls.length≤k) (hw:pickN d.what=7)
  {u3 u4 u5 u6 u10 u12 u15 u16 u17 u18 u19 u20 u21 u22 u23 u24 u25 u26 u27 u28 u29 u30 u31 u32 u33 u34 u35 u36 u37 u38 u39 u40 u41 u42 u43 u44 u45 u46 u47 u48 u49 u50 u51 u52 u53 u54 u55 u56 u57 u58 u59 u60 u61 u62 u63 u64 u65 u66 u67 u68 u69 u70 u71 u72 u73 u74 u75 u76 u77 u78 u79 u80 u81 u82 u83 u84 u85 u86 u87 u88 u89 u90 u91 u92 u93 u94 u95 u96 u97 u98 u99 u100 u101 u102 u103 u104 u105 u106 u107 u108 u109 u110 u111 u112 u113 u114 u115 u116 u117 u118 u119 u120 u121 u122 u123 u124 u125 u126 u127 u128 u129 u130 u131 u132 u133 u134 u135 u136 u137 u138 u139 u140 u141 u142 u143 u144 u145 u146 u147 u148 u149 u150 u151 u152 u153 u154 u155 u156 u157 u158 u159 u160 u161 u162 u163 u164 u165 u166 u167 u168 u169 u170 u171 u172 u173 u174 u175 u176 u177 u178 u179 u180 u181 u182 u183 u184 u185 u186 u187 u188 u189 u190 u191 u192 u193 u194 u195 u196 u197 u198 u199 u200 u201 u202 u203 u204 u205 u206 u207 u208 u209 u210 u211 u212 u213 u214 u215 u216 u217 u218 u219 u220 u221 u222 u223 u224 u225 u226 u227 u228 u229 u230 u231 u232 u233 u234 u235 u236 u237 u238 u239 u240 u241 u242 u243 u244 u245 u246 u247 u248 u249 u250 u251 u252 u253 u254 u255 u256 u257 u258 u259 u260 u261 u262 u263 u264 u265 u266 u267 u268 u269 u270 u271 u272 u273 u274 u275 u276 u277 u278 u279 u280 u281 u282 u283 u284 u285:Value} {Q:Exit→Act→World→Prop} (hqp:∀ x (a:Act) o v w',Q (.panic x) (a.put o v) w'→Q (.panic x) a w')
  (hret:∀ (v10 v12 v15 v16 v17 v18 v19 v20 v21 v22 v23 v24 v81 v82 v83 v84 v85 v86 v87 v88 v89 v90 v91 v92 v93 v94 v95 v96 v97 v98 v99 v100 v101 v102 v103 v104 v105 v106 v107 v108 v109 v110 v111 v112 v113 v114 v115 v116 v117 v118 v119 v120 v121 v122 v123 v124 v125 v126 v127 v128 v129 v130 v131 v132 v133 v134 v135 v136 v137 v138 v139 v140 v141 v142 v143 v144 v145 v146 v147 v148 v149 v150 v151 v152 v153 v154 v155 v156 v157 v158 v159 v160 v161 v162 v163 v164 v165 v166 v167 v168 v169 v170 v171 v172 v173 v174 v175 v176 v177 v178 v179 v180 v181 v182 v183 v184 v185 v186 v187 v188 v189 v190 v191 v192 v193 v194 v195 v196 v197 v198 v199 v200 v201 v202 v203 v204 v205 v206 v207 v208 v209 v210 v211 v212 v213 v214 v215 v216 v217 v218 v219 v220 v221 v222 v223 v224 v225 v226 v227 v228 v229 v230 v231 v232 v233 v234 v235 v236 v237 v238 v239 v240 v241 v242 v243 v244 v245 v246 v247 v248 v249 v250 v251 v252 v253 v254 v255 v256 v257 v258 v259 v260 v261 v262 v263 v264 v265 v266 v267 v268 v269 v270 v271 v272 v273 v274 v275 v276 v277 v278 v279 v280 v281 v282 v283 v284 y9 y11:Value) (w4:World),Below w.heap.size w w4→Q .ret { tmps := #[.int .i64 limit,.int .i64 cap,.slice (some ⟨db,doff,none⟩) N0 dcp,u3,u4,u5,.bool true,.bool true,.pointer (some ⟨p,0,none⟩),y9,v10,y11,v12,.pointer (some ⟨sb,0,none⟩),.int .i64 (k:Int),v15,v16,v17,v18,v19,v20,v21,v22,v23,v24,u25,u26,u27,u28,u29,u30,u31,u32,u33,u34,u35,u36,u37,u38,u39,u40,u41,u42,u43,u44,u45,u46,u47,u48,u49,u50,u51,u52,u53,u54,u55,u56,u57,u58,u59,u60,u61,u62,u63,u64,u65,u66,u67,u68,u69,u70,u71,u72,u73,u74,u75,u76,u77,u78,u79,u80,v81,v82,v83,v84,v85,v86,v87,v88,v89,v90,v91,v92,v93,v94,v95,v96,v97,v98,v99,v100,v101,v102,v103,v104,v105,v106,v107,v108,v109,v110,v111,v112,v113,v114,v115,v116,v117,v118,v119,v120,v121,v122,v123,v124,v125,v126,v127,v128,v129,v130,v131,v132,v133,v134,v135,v136,v137,v138,v139,v140,v141,v142,v143,v144,v145,v146,v147,v148,v149,v150,v151,v152,v153,v154,v155,v156,v157,v158,v159,v160,v161,v162,v163,v164,v165,v166,v167,v168,v169,v170,v171,v172,v173,v174,v175,v176,v177,v178,v179,v180,v181,v182,v183,v184,v185,v186,v187,v188,v189,v190,v191,v192,v193,v194,v195,v196,v197,v198,v199,v200,v201,v202,v203,v204,v205,v206,v207,v208,v209,v210,v211,v212,v213,v214,v215,v216,v217,v218,v219,v220,v221,v222,v223,v224,v225,v226,v227,v228,v229,v230,v231,v232,v233,v234,v235,v236,v237,v238,v239,v240,v241,v242,v243,v244,v245,v246,v247,v248,v249,v250,v251,v252,v253,v254,v255,v256,v257,v258,v259,v260,v261,v262,v263,v264,v265,v266,v267,v268,v269,v270,v271,v272,v273,v274,v275,v276,v277,v278,v279,v280,v281,v282,v283,v284,u285],defers:=[] } w4)
  (hback:∀ (v6 v10 v12 v15 v16 v17 v18 v19 v20 v21 v22 v23 v24 v81 v82 v83 v84 v85 v86 v87 v88 v89 v90 v91 v92 v93 v94 v95 v96 v97 v98 v99 v100 v101 v102 v103 v104 v105 v106 v107 v108 v109 v110 v111 v112 v113 v114 v115 v116 v117 v118 v119 v120 v121 v122 v123 v124 v125 v126 v127 v128 v129 v130 v131 v132 v133 v134 v135 v136 v137 v138 v139 v140 v141 v142 v143 v144 v145 v146 v147 v148 v149 v150 v151 v152 v153 v154 v155 v156 v157 v158 v159 v160 v161 v162 v163 v164 v165 v166 v167 v168 v169 v170 v171 v172 v173 v174 v175 v176 v177 v178 v179 v180 v181 v182 v183 v184 v185 v186 v187 v188 v189 v190 v191 v192 v193 v194 v195 v196 v197 v198 v199 v200 v201 v202 v203 v204 v205 v206 v207 v208 v209 v210 v211 v212 v213 v214 v215 v216 v217 v218 v219 v220 v221 v222 v223 v224 v225 v226 v227 v228 v229 v230 v231 v232 v233 v234 v235 v236 v237 v238 v239 v240 v241 v242 v243 v244 v245 v246 v247 v248 v249 v250 v251 v252 v253 v254 v255 v256 v257 v258 v259 v260 v261 v262 v263 v264 v265 v266 v267 v268 v269 v270 v271 v272 v273 v274 v275 v276 v277 v278 v279 v280 v281 v282 v283 v284 y9 y11:Value) (w4:World),PRel w p sb limit cap N0 y9 y11 (.int .i64 ((k:Int)+1)) w4→Q .normal { tmps := #[.int .i64 limit,.int .i64 cap,.slice (some ⟨db,doff,none⟩) N0 dcp,u3,u4,u5,v6,.bool true,.pointer (some ⟨p,0,none⟩),y9,v10,y11,v12,.pointer (some ⟨sb,0,none⟩),.int .i64 ((k:Int)+1),v15,v16,v17,v18,v19,v20,v21,v22,v23,v24,u25,u26,u27,u28,u29,u30,u31,u32,u33,u34,u35,u36,u37,u38,u39,u40,u41,u42,u43,u44,u45,u46,u47,u48,u49,u50,u51,u52,u53,u54,u55,u56,u57,u58,u59,u60,u61,u62,u63,u64,u65,u66,u67,u68,u69,u70,u71,u72,u73,u74,u75,u76,u77,u78,u79,u80,v81,v82,v83,v84,v85,v86,v87,v88,v89,v90,v91,v92,v93,v94,v95,v96,v97,v98,v99,v100,v101,v102,v103,v104,v105,v106,v107,v108,v109,v110,v111,v112,v113,v114,v115,v116,v117,v118,v119,v120,v121,v122,v123,v124,v125,v126,v127,v128,v129,v130,v131,v132,v133,v134,v135,v136,v137,v138,v139,v140,v141,v142,v143,v144,v145,v146,v147,v148,v149,v150,v151,v152,v153,v154,v155,v156,v157,v158,v159,v160,v161,v162,v163,v164,v165,v166,v167,v168,v169,v170,v171,v172,v173,v174,v175,v176,v177,v178,v179,v180,v181,v182,v183,v184,v185,v186,v187,v188,v189,v190,v191,v192,v193,v194,v195,v196,v197,v198,v199,v200,v201,v202,v203,v204,v205,v206,v207,v208,v209,v210,v211,v212,v213,v214,v215,v216,v217,v218,v219,v220,v221,v222,v223,v224,v225,v226,v227,v228,v229,v230,v231,v232,v233,v234,v235,v236,v237,v238,v239,v240,v241,v242,v243,v244,v245,v246,v247,v248,v249,v250,v251,v252,v253,v254,v255,v256,v257,v258,v259,v260,v261,v262,v263,v264,v265,v266,v267,v268,v269,v270,v271,v272,v273,v274,v275,v276,v277,v278,v279,v280,v281,v282,v283,v284,u285],defers:=[] } w4) :
  Code.wp Tryz.prog playsBody Q { tmps := #[.int .i64 limit,.int .i64 cap,.slice (some ⟨db,doff,none⟩) N0 dcp,u3,u4,u5,u6,.bool true,.pointer (some ⟨p,0,none⟩),.pointer (some ⟨lb,0,none⟩),u10,.slice aq (allSpots nums fr).length cq,u12,.pointer (some ⟨sb,0,none⟩),.int .i64 (k:Int),u15,u16,u17,u18,u19,u20,u21,u22,u23,u24,u25,u26,u27,u28,u29,u30,u31,u32,u33,u34,u35,u36,u37,u38,u39,u40,u41,u42,u43,u44,u45,u46,u47,u48,u49,u50,u51,u52,u53,u54,u55,u56,u57,u58,u59,u60,u61,u62,u63,u64,u65,u66,u67,u68,u69,u70,u71,u72,u73,u74,u75,u76,u77,u78,u79,u80,u81,u82,u83,u84,u85,u86,u87,u88,u89,u90,u91,u92,u93,u94,u95,u96,u97,u98,u99,u100,u101,u102,u103,u104,u105,u106,u107,u108,u109,u110,u111,u112,u113,u114,u115,u116,u117,u118,u119,u120,u121,u122,u123,u124,u125,u126,u127,u128,u129,u130,u131,u132,u133,u134,u135,u136,u137,u138,u139,u140,u141,u142,u143,u144,u145,u146,u147,u148,u149,u150,u151,u152,u153,u154,u155,u156,u157,u158,u159,u160,u161,u162,u163,u164,u165,u166,u167,u168,u169,u170,u171,u172,u173,u174,u175,u176,u177,u178,u179,u180,u181,u182,u183,u184,u185,u186,u187,u188,u189,u190,u191,u192,u193,u194,u195,u196,u197,u198,u199,u200,u201,u202,u203,u204,u205,u206,u207,u208,u209,u210,u211,u212,u213,u214,u215,u216,u217,u218,u219,u220,u221,u222,u223,u224,u225,u226,u227,u228,u229,u230,u231,u232,u233,u234,u235,u236,u237,u238,u239,u240,u241,u242,u243,u244,u245,u246,u247,u248,u249,u250,u251,u252,u253,u254,u255,u256,u257,u258,u259,u260,u261,u262,u263,u264,u265,u266,u267,u268,u269,u270,u271,u272,u273,u274,u275,u276,u277,u278,u279,u280,u281,u282,u283,u284,u285],defers:=[] } wr:=by
 have HS:=Lib.hid (And.intro hS (And.intro hV (And.intro hik (And.intro hbb (And.intro hH (And.intro hls hlk))))))
 have HD:=Lib.hid hdc
 have HOK:=Lib.hid hok
 have HLIM:=Lib.hid (And.intro hlim (And.intro hcap (And.intro hN hdb)))
 have HRET:=Lib.hid hret
 have HBACK:=Lib.hid hback
 have HQP:=Lib.hid hqp
 have HW:=Lib.hid hw
 have cFew:=few_at 20 (by omega) d.a d.cap d.l wr (hok.recs.below hH.below) hok.len
 obtain ⟨nd,hnd⟩:∃ n,n=d.l.length:=⟨_,rfl⟩
 obtain ⟨d0,d1,d2,d3,d4⟩:=hdc wr hH.below
 clear hS hV hik hbb hH hls hlk hdc hok hret hback hqp hw hlim hcap hN
 conv=>arg 2;whnf
 conv=>arg 4;zeta
 (try dsimp only)
 go_wp2_with fail
 refine cFew.mono ?_
 rintro e w' ⟨⟨z,rfl,hz⟩,rfl⟩
 clear cFew
 rcases z with _|_
 ·(try dsimp only)
  go_wp2_with fail
  exact HRET.out _ _ _ _ _ _ _ _ _ _ _ _ _ _ _ _ _ _ _ _ _ _ _ _ _ _ _ _ _ _ _ _ _ _ _ _ _ _ _ _ _ _ _ _ _ _ _ _ _ _ _ _ _ _ _ _ _ _ _ _ _ _ _ _ _ _ _ _ _ _ _ _ _ _ _ _ _ _ _ _ _ _ _ _ _ _ _ _ _ _ _ _ _ _ _ _ _ _ _ _ _ _ _ _ _ _ _ _ _ _ _ _ _ _ _ _ _ _ _ _ _ _ _ _ _ _ _ _ _ _ _ _ _ _ _ _ _ _ _ _ _ _ _ _ _ _ _ _ _ _ _ _ _ _ _ _ _ _ _ _ _ _ _ _ _ _ _ _ _ _ _ _ _ _ _ _ _ _ _ _ _ _ _ _ _ _ _ _ _ _ _ _ _ _ _ _ _ _ _ _ _ _ _ _ _ _ _ _ _ _ _ _ _ _ _ _ _ _ _ HS.out.2.2.2.2.1.below
 have HZ:=Lib.hid hz
 have cP:=pick_any d.what HOK.out.what.1 HOK.out.what.2
 rw [HW.out] at cP
 clear hz
 (try dsimp only)
 go_wp2_with fail
 refine (cP _).mono ?_
 rintro e w' ⟨rfl,hw'⟩
 rw [hw']
 clear hw' cP
 have cU:=dsk_used HS.out.1.dsk
 (try dsimp only)
 go_wp2_with fail
 refine cU.mono ?_
 rintro e w2 ⟨rfl,hb2⟩
 by_cases hu:cap - 30000 < (Disk.used S:Int)
 ·have hu1:decide (cap - 30000 < (Disk.used S:Int))=true:=decide_eq_true hu
  have ew:IntKind.i64.wrap (cap - 30000)=cap - 30000:=by rw [IntKind.wrap_i64];have:=HLIM.out.2.1;omega
  (try dsimp only)
  go_wp2_with fail
  exact HRET.out _ _ _ _ _ _ _ _ _ _ _ _ _ _ _ _ _ _ _ _ _ _ _ _ _ _ _ _ _ _ _ _ _ _ _ _ _ _ _ _ _ _ _ _ _ _ _ _ _ _ _ _ _ _ _ _ _ _ _ _ _ _ _ _ _ _ _ _ _ _ _ _ _ _ _ _ _ _ _ _ _ _ _ _ _ _ _ _ _ _ _ _ _ _ _ _ _ _ _ _ _ _ _ _ _ _ _ _ _ _ _ _ _ _ _ _ _ _ _ _ _ _ _ _ _ _ _ _ _ _ _ _ _ _ _ _ _ _ _ _ _ _ _ _ _ _ _ _ _ _ _ _ _ _ _ _ _ _ _ _ _ _ _ _ _ _ _ _ _ _ _ _ _ _ _ _ _ _ _ _ _ _ _ _ _ _ _ _ _ _ _ _ _ _ _ _ _ _ _ _ _ _ _ _ _ _ _ _ _ _ _ _ _ _ _ _ _ _ _ (HS.out.2.2.2.2.1.below.trans (hb2.mono HS.out.2.2.2.2.1.below.size))
 have hu1:decide (cap - 30000 < (Disk.used S:Int))=false:=decide_eq_false hu
 have ew:IntKind.i64.wrap (cap - 30000)=cap - 30000:=by rw [IntKind.wrap_i64];have:=HLIM.out.2.1;omega
 have HU:=Lib.hid hu
 have HS2:=Lib.hid (show SysAt w2 p lb S limit nums base begun (szs nums fr) false F g c vz∧Held w w2 sb (foot lb g vz F) a1 cp1 ls (baseN base nums fr) begun aq cq (allSpots nums fr) from ⟨HS.out.1.below hb2,HS.out.2.2.2.2.1.new hb2⟩)
 clear hb2 cU d0 d1 d2 d3 d4 hu
 obtain ⟨d0,d1,d2,d3,d4⟩:=HD.out w2 HS2.out.2.below
 obtain ⟨dn,hdn⟩:∃ b,b=d.dn:=⟨_,rfl⟩
 rw [← hdn] at d2
 clear hdn
 (try dsimp only)
 go_upto_if 112 with (fail)
 go_cut [] from 112 to 124 (fun wx=>∃ (T1:St) (F1:Nat→Prop),SysAt wx p lb T1 limit nums base begun (szs nums fr) false F1 g c vz∧Lv T1 cap nums base begun fr i∧tot T1.files≤tot S.files∧Held w wx sb (foot lb g vz F1) a1 cp1 ls (baseN base nums fr) begun aq cq (allSpots nums fr))
 case first =>
  rcases dn with _|_
  ·(try dsimp only)
   (try dsimp only)
   go_wp2_with fail
   go_meet
   case rel=>exact ⟨S,F,HS2.out.1,HS.out.2.1,Nat.le_refl _,HS2.out.2⟩
  ·(try dsimp only)
   (try dsimp only)
   go_wp2_with fail
   refine Late.region_goes (fun u=>∃ j,u=w2.drewN j) (fun j=>j == 11) (by kernel_rfl) ?_ (fun hH=>?_)
   ·exact ⟨1,rfl⟩
   refine Late.tk 0 ?_ ?_ hH ?_ (hQ:=by exact fun _ _ _ h=>HQP.out _ _ _ _ _ h);rotate_left 2
   refine Late.tk 1 ?_ ?_ hH ?_ (hQ:=by exact fun _ _ _ h=>HQP.out _ _ _ _ _ h);rotate_left 2
   refine Late.tk 2 ?_ ?_ hH ?_ (hQ:=by exact fun _ _ _ h=>HQP.out _ _ _ _ _ h);rotate_left 2
   refine Late.tk 3 ?_ ?_ hH ?_ (hQ:=by exact fun _ _ _ h=>HQP.out _ _ _ _ _ h);rotate_left 2
   refine Late.tk 4 ?_ ?_ hH ?_ (hQ:=by exact fun _ _ _ h=>HQP.out _ _ _ _ _ h);rotate_left 2
   refine Late.tk 5 ?_ ?_ hH ?_ (hQ:=by exact fun _ _ _ h=>HQP.out _ _ _ _ _ h);rotate_left 2
   refine Late.tk 6 ?_ ?_ hH ?_ (hQ:=by exact fun _ _ _ h=>HQP.out _ _ _ _ _ h);rotate_left 2
   refine Late.tk 7 ?_ ?_ hH ?_ (hQ:=by exact fun _ _ _ h=>HQP.out _ _ _ _ _ h);rotate_left 2
   refine Late.tk 8 ?_ ?_ hH ?_ (hQ:=by exact fun _ _ _ h=>HQP.out _ _ _ _ _ h);rotate_left 2
   refine Late.tk 9 ?_ ?_ hH ?_ (hQ:=by exact fun _ _ _ h=>HQP.out _ _ _ _ _ h);rotate_left 2
   refine Late.tk 10 ?_ ?_ hH ?_ (hQ:=by exact fun _ _ _ h=>HQP.out _ _ _ _ _ h);rotate_left 2
   rotate_left
   any_goals (intro wy hSw;(try dsimp only at hSw);obtain ⟨j,rfl⟩:=hSw;obtain ⟨d0,d1,d2,d3,d4⟩:=HD.out _ (HS2.out.2.below.trans ((below_drewN w2 j).mono HS2.out.2.below.size));go_simp;try (with_reducible rfl))
   try simp only [Act.put,List.setIfInBounds_toArray,List.set_cons_zero,List.set_cons_succ]
   refine Late.Goes.one (i:=11) (by kernel_rfl) (by simp only [List.getElem?_toArray,List.getElem?_cons_succ,List.getElem?_cons_zero];rfl) (fun K hK=>?_)
   clear hH
   go_simp
   go_at_call 10
   have hd1:=(Below.refl w2.heap.size w2).drew
   refine (dsk_plan (HS2.out.1.below hd1).dsk d.ef d.kp HOK.out.ef.2 HOK.out.kp.2).mono ?_
   rintro e w3 ⟨rfl,hN3⟩
   have HT3:=Lib.hid (show ∃ (T1:St) (F1:Nat→Prop),SysAt w3 p lb T1 limit nums base begun (szs nums fr) false F1 g c vz∧Lv T1 cap nums base begun fr i∧tot T1.files≤tot S.files∧Held w w3 sb (foot lb g vz F1) a1 cp1 ls (baseN base nums fr) begun aq cq (allSpots nums fr) from ⟨planned S d.ef d.kp,_,(HS2.out.1.below hd1).disk hN3,HS.out.2.1.planned HOK.out.ef.2 HOK.out.kp.2,Nat.le_refl _,(HS2.out.2.new hd1).disk hN3⟩)
   clear hd1 hN3
   refine hK.out _ _ ?_ (fun _=>?_)
   ·exact fun h=>by cases h
   clear hK K
   try simp only [Act.put,List.setIfInBounds_toArray,List.set_cons_zero,List.set_cons_succ]
   refine Late.Goes.done (by kernel_rfl) ?_ _
   clear d0 d1 d2 d3 d4
   (try dsimp only)
   (try dsimp only)
   go_wp2_with fail
   go_meet
   case rel=>exact HT3.out
 case rest =>
  obtain ⟨T1,F1,hT⟩:=hcut
  rename World=>w3
  have HT:=Lib.hid hT
  clear hT d0 d1 d2 d3 d4
  obtain ⟨d0,d1,d2,d3,d4⟩:=HD.out w3 HT.out.2.2.2.below
  have cR:=reopen_log (N:=i) HT.out.1.dsk HT.out.2.1.bk (fun j hj=>max_last HT.out.2.1.lg.num.rising HT.out.2.1.last j (mem_kept hj)) HT.out.2.1.low HLIM.out.1.1 (by have:=HLIM.out.1.2;omega) (by have h1:=kept_length HT.out.2.1;have h2:=HT.out.2.2.1;have h3:=HU.out;have h4:=tot_used S;omega)
  clear d0 d1 d2 d3 d4
  (try dsimp only)
  go_wp2_with fail
  refine cR.mono ?_
  rintro e w4 hRe
  clear cR
  rcases hRe with ⟨T4,lb4,F4,g4,c4,ap,cp4,aq4,cq4,vz4,gs,ss4,L4,rfl,hS4,hV4,hpl4,ht4,hf4,hb4,⟨OB,hOB,hop,hoq⟩,hgr,hof,hgs,hss⟩|⟨T4,F4,hst4,hpl4,hfell,ht4,rfl⟩
  ·skip
   obtain ⟨ns,hns⟩:∃ ns,ns=kept base nums:=⟨_,rfl⟩
   rw [← hns] at hS4 hV4 ht4 hgs hss
   have HALL:=Lib.hid (show all ns fr=all (kept base nums) fr by rw [hns])
   have HL4:=Lib.hid (show L4≤i by have h:=last_mem hV4.last;rw [hns] at h;exact max_last HT.out.2.1.lg.num.rising HT.out.2.1.last L4 (mem_kept h))
   clear hns
   subst hss
   have HR:=Lib.hid (show SysAt w4 p lb4 T4 limit ns 0 begun (szs ns (only ns fr)) false F4 g4 c4 vz4∧Lv T4 cap ns 0 begun (only ns fr) L4∧Held w w4 sb (foot lb4 g4 vz4 F4) a1 cp1 ls (baseN base nums fr) begun aq4 cq4 (allSpots ns fr) from ⟨hS4,hV4,HT.out.2.2.2.anew (fun j hj => .inl hj) hb4 hf4 hS4.lt_ hOB hoq (fun k hk=>hof k (.inr hk))⟩)
   have HP:=Lib.hid (show Pcs w4 ap gs∧(∀ x,ap=some x→¬ F4 x.block)∧(∀ g ∈ gs,∀ x,g.a=some x→¬ F4 x.block)∧gs.map (·.p)=allPieces ns fr∧(∀ x,ap=some x→¬ x.block=sb)∧(∀ g ∈ gs,∀ x,g.a=some x→¬ x.block=sb) from ⟨pcs_of_rows hop (fun g hg=>(hgr g hg).1),fun x hx e=>hof x.block (.inl (by rw [hx];rfl)) (.inl e),fun g hg x hx e=>((hgr g hg).2 x hx).2 (.inl e),hgs,(fun x hx e=>by have h1:=(hop.lt x.block (by rw [hx];rfl)).1;have h2:=HT.out.2.2.2.state.lt;omega),(fun g hg x hx e=>by have h1:=((hgr g hg).2 x hx).1;have h2:=HT.out.2.2.2.state.lt;omega)⟩)
   clear hS4 hV4 hf4 hb4 hOB hop hoq hgr hof hgs hpl4 ht4
   have cD:=dsk_down HR.out.1.dsk
   rw [HR.out.2.1.lg.up.up] at cD
   (try dsimp only)
   go_wp2_with fail
   refine cD.mono ?_
   rintro e w' ⟨rfl,hw'⟩
   rw [← hw']
   clear hw' cD
   have cO:=dsk_open HR.out.1.dsk
   (try dsimp only)
   go_wp2_with fail
   refine cO.mono ?_
   rintro e w5 ⟨rfl,hN5⟩
   have HR5:=Lib.hid (show SysAt w5 p lb4 (opened T4) limit ns 0 begun (szs ns (only ns fr)) false (grow F4 w4 w5) g4 c4 vz4∧Held w w5 sb (foot lb4 g4 vz4 (grow F4 w4 w5)) a1 cp1 ls (baseN base nums fr) begun aq4 cq4 (allSpots ns fr)∧Pcs w5 ap gs from ⟨HR.out.1.disk hN5,HR.out.2.2.disk hN5,pcs_but HP.out.1 hN5.2 (fun _=>HP.out.2.1) HP.out.2.2.1⟩)
   have b0:w5.cell? ⟨sb,0,none⟩=some (.slice a1 ls.length cp1):=HR5.out.2.1.state.cell 0
   have b1:w5.cell? ⟨sb,1,none⟩=some (.int .i64 (baseN base nums fr)):=HR5.out.2.1.state.cell 1
   have b2:w5.cell? ⟨sb,2,none⟩=some (.bool begun):=HR5.out.2.1.state.cell 2
   have cQ:=opened_held HT.out.2.1 HR5.out.2.1 HS.out.2.2.2.2.2.1
   unfold stV at cQ
   clear cO hN5
   (try dsimp only)
   go_wp2_with fail
   refine cQ.mono ?_
   rintro e w6 ⟨rfl,hb6⟩
   have HR6:=Lib.hid (show SysAt w6 p lb4 (opened T4) limit ns 0 begun (szs ns (only ns fr)) false (grow F4 w4 w5) g4 c4 vz4∧Held w w6 sb (foot lb4 g4 vz4 (grow F4 w4 w5)) a1 cp1 ls (baseN base nums fr) begun aq4 cq4 (allSpots ns fr)∧Pcs w6 ap gs from ⟨HR5.out.1.below hb6,HR5.out.2.1.new hb6,HR5.out.2.2.below hb6⟩)
   clear b0 b1 b2 cQ hb6
   have b0:w6.cell? ⟨sb,0,none⟩=some (.slice a1 ls.length cp1):=HR6.out.2.1.state.cell 0
   have b1:w6.cell? ⟨sb,1,none⟩=some (.int .i64 (baseN base nums fr)):=HR6.out.2.1.state.cell 1
   have b2:w6.cell? ⟨sb,2,none⟩=some (.bool begun):=HR6.out.2.1.state.cell 2
   have f0:w6.frozen? ⟨sb,0,none⟩=false:=HR6.out.2.1.state.frozen 0
   have f1:w6.frozen? ⟨sb,1,none⟩=false:=HR6.out.2.1.state.frozen 1
   have f2:w6.frozen? ⟨sb,2,none⟩=false:=HR6.out.2.1.state.frozen 2
   obtain ⟨ls7,hls7⟩:∃ x,x=ls.take (all (kept base nums) fr).length:=⟨_,rfl⟩
   obtain ⟨n7,hn7⟩:∃ x,x=ls7.length:=⟨_,rfl⟩
   rw [← hls7,← hn7]
   have hka:=kept_all HT.out.2.1 HS.out.2.2.2.2.2.1
   have hfr:=HR6.out.2.1.front (all (kept base nums) fr).length hka.2
   rw [← hls7] at hka hfr
   have hk1:=hka.1.trans HALL.out.symm
   have hl7:n7≤ls.length:=by rw [hn7,hls7,List.length_take];omega
   have hcp:=HR6.out.2.1.lcap
   have hH7:=HR6.out.2.1.store (ls':=ls7) (B' := -1) (b':=begun) hfr.1 hfr.2.1 hfr.2.2 ⟨by omega,hcp.2⟩ HR6.out.2.1.lnil HR6.out.2.1.lone HR6.out.2.1.loff
   have hbt:=but_set3 w6 sb (.slice a1 n7 cp1) (.int .i64 (-1)) (.bool begun)
   rw [← hn7] at hH7
   obtain ⟨W7,hW7⟩:∃ V,V=(((w6.setCell ⟨sb,0,none⟩ (.slice a1 n7 cp1)).setCell ⟨sb,1,none⟩ (.int .i64 (-1))).setCell ⟨sb,2,none⟩ (.bool begun)):=⟨_,rfl⟩
   rw [← hW7] at hH7 hbt
   have hS7:=HR6.out.1.but_ hbt (fun j hj e=>HR6.out.2.1.sboff ((show j=sb from e) ▸ hj))
   have hpt:=pieces_told hk1 HP.out.2.2.2.1 hfr.2.1
   have hlk:=HS.out.2.2.2.2.2.2
   have hP7:Pcs W7 ap gs:=pcs_but HR6.out.2.2 hbt (fun _ x hx e=>HP.out.2.2.2.2.1 x hx e) (fun g hg x hx e=>HP.out.2.2.2.2.2 g hg x hx e)
   have cA:=as_any (cp:=cp4) (cap:=cp1) hS7 hP7 (by have:=HLIM.out.2.2.1;omega) hpt.2.2 hH7.lists (by have:=HLIM.out.2.2.1;omega) (fun g hg=>by have:=hfr.2.1 g hg;omega) (-1) begun
   rw [show (decide (gs.map (·.p.l)=ls7.map (·.l)) && (begun == begun))=true by rw [hpt.1];simp] at cA
   rw [← hn7] at cA
   unfold stV at cA
   have HR7:=Lib.hid (And.intro hS7 (And.intro hH7 (And.intro hk1 (show n7≤k by omega))))
   have HN7:=Lib.hid hn7
   clear hls7 hka hk1 hfr hcp hH7 hbt hS7 hpt hlk hP7 HR5 HR6 hl7 hn7
   (try dsimp only)
   go_wp2_with fail
   rw [← hW7]
   clear hW7
   refine cA.mono ?_
   rintro e w8 ⟨rfl,hb8⟩
   clear cA b0 b1 b2 f0 f1 f2
   have HR8:=Lib.hid (And.intro (HR7.out.1.below hb8) (HR7.out.2.1.new hb8))
   have b0:w8.cell? ⟨sb,0,none⟩=some (.slice a1 n7 cp1):=by rw [HN7.out];exact HR8.out.2.state.cell 0
   have b1:w8.cell? ⟨sb,1,none⟩=some (.int .i64 (-1)):=HR8.out.2.state.cell 1
   have b2:w8.cell? ⟨sb,2,none⟩=some (.bool begun):=HR8.out.2.state.cell 2
   have cW:=whole_any (cq:=cq4) (cp:=cp1) HR8.out.1 HR.out.2.1.opened rfl (by rw [spots_only];exact HR8.out.2.spots) HR8.out.2.lists (by rw [all_only];exact HR7.out.2.2.1) (by have:=HR7.out.2.2.2;have:=HN7.out;have:=HLIM.out.2.2.1;omega) (fun g hg=>by have:=HR8.out.2.few g hg;omega) (-1) begun
   rw [spots_only,← HN7.out] at cW
   unfold stV at cW
   clear hb8
   (try dsimp only)
   go_wp2_with fail
   refine cW.mono ?_
   rintro e w9 ⟨rfl,hb9⟩
   clear cW b0 b1 b2
   have HPR:=Lib.hid (prel_opened (limit:=limit) (cap:=cap) hlt HS.out.2.2.1 (by have:=HR7.out.2.2.2;have:=HN7.out;omega) HL4.out (HR8.out.1.below hb9) HR.out.2.1.opened (HR8.out.2.new hb9) HR7.out.2.2.1)
   clear hb9
   have hk50:k < 50:=by have:=HLIM.out.2.2.1;omega
   (try dsimp only)
   go_wp2_with fail
   exact HBACK.out _ _ _ _ _ _ _ _ _ _ _ _ _ _ _ _ _ _ _ _ _ _ _ _ _ _ _ _ _ _ _ _ _ _ _ _ _ _ _ _ _ _ _ _ _ _ _ _ _ _ _ _ _ _ _ _ _ _ _ _ _ _ _ _ _ _ _ _ _ _ _ _ _ _ _ _ _ _ _ _ _ _ _ _ _ _ _ _ _ _ _ _ _ _ _ _ _ _ _ _ _ _ _ _ _ _ _ _ _ _ _ _ _ _ _ _ _ _ _ _ _ _ _ _ _ _ _ _ _ _ _ _ _ _ _ _ _ _ _ _ _ _ _ _ _ _ _ _ _ _ _ _ _ _ _ _ _ _ _ _ _ _ _ _ _ _ _ _ _ _ _ _ _ _ _ _ _ _ _ _ _ _ _ _ _ _ _ _ _ _ _ _ _ _ _ _ _ _ _ _ _ _ _ _ _ _ _ _ _ _ _ _ _ _ _ _ _ _ _ _  HPR.out
  ·skip
   obtain ⟨hd4,ns,fr4,hB4,hN4,hall⟩:=hfell
   have hH4:Held w w4 sb F4 a1 cp1 ls (baseN base nums fr) begun aq cq (allSpots nums fr):=HT.out.2.2.2.step (hst4.2.2.mono (fun j _ hj => .inl hj)) (fun j hj=>by
    rcases hst4.2.1 j hj with h1|h1
    ·exact .inl (.inl h1)
    ·exact .inr h1.1) hst4.1.lt
   have HF:=Lib.hid (And.intro hst4.1 (And.intro hd4 (And.intro hB4 (And.intro hN4 (And.intro hall (And.intro hH4 ht4))))))
   have cD:=dsk_down hst4.1
   rw [hd4] at cD
   clear hst4 hpl4 hd4 hB4 hN4 hall hH4 ht4
   (try dsimp only)
   go_wp2_with fail
   refine cD.mono ?_
   rintro e w' ⟨rfl,hw'⟩
   rw [← hw']
   clear hw' cD
   rw [errV_bad (show (15:Int)≠0 by decide)]
   have ke:=Err.code_neq 15 15
   have cO:=dsk_open HF.out.1
   (try dsimp only)
   go_wp2_with fail
   refine cO.mono ?_
   rintro e w4b ⟨rfl,hN4b⟩
   have hHb:=HF.out.2.2.2.2.2.1.step (hN4b.2.mono (fun j _ hj=>hj)) (fun j hj=>by
    rcases hj with h1|h1
    ·exact .inl h1
    ·exact .inr h1.1) hN4b.1.lt
   have HFb:=Lib.hid (And.intro hN4b.1 hHb)
   have cR:=reopen_log (N:=i) HFb.out.1 HF.out.2.2.1 HF.out.2.2.2.1 HT.out.2.1.low HLIM.out.1.1 (by have:=HLIM.out.1.2;omega) (by have h1:=low_length HF.out.2.2.1.num.rising HF.out.2.2.1.low;have h2:=HT.out.2.2.1;have h3:=HU.out;have h4:=tot_used S;have h5:=HF.out.2.2.2.2.2.2;have h6:=kept_length HT.out.2.1;show ((tot T4.files+(15+4 * ns.length):Nat):Int)≤cap;omega)
   clear cO hN4b hHb
   (try dsimp only)
   go_wp2_with fail
   refine cR.mono ?_
   rintro e w4c hRe
   clear cR
   have HALL:=Lib.hid HF.out.2.2.2.2.1
   rcases hRe with ⟨T4,lb4,F4,g4,c4,ap,cp4,aq4,cq4,vz4,gs,ss4,L4,rfl,hS4,hV4,hpl4,ht4,hf4,hb4,⟨OB,hOB,hop,hoq⟩,hgr,hof,hgs,hss⟩|⟨T4,F4,hst4,hpl4,hfell,ht4,rfl⟩
   ·skip
    have HL4:=Lib.hid (show L4≤i from HF.out.2.2.2.1 L4 (last_mem hV4.last))
    subst hss
    have HR:=Lib.hid (show SysAt w4c p lb4 T4 limit ns 0 begun (szs ns (only ns fr4)) false F4 g4 c4 vz4∧Lv T4 cap ns 0 begun (only ns fr4) L4∧Held w w4c sb (foot lb4 g4 vz4 F4) a1 cp1 ls (baseN base nums fr) begun aq4 cq4 (allSpots ns fr4) from ⟨hS4,hV4,HFb.out.2.anew (fun j hj=>hj) hb4 hf4 hS4.lt_ hOB hoq (fun k hk=>hof k (.inr hk))⟩)
    have HP:=Lib.hid (show Pcs w4c ap gs∧(∀ x,ap=some x→¬ F4 x.block)∧(∀ g ∈ gs,∀ x,g.a=some x→¬ F4 x.block)∧gs.map (·.p)=allPieces ns fr4∧(∀ x,ap=some x→¬ x.block=sb)∧(∀ g ∈ gs,∀ x,g.a=some x→¬ x.block=sb) from ⟨pcs_of_rows hop (fun g hg=>(hgr g hg).1),fun x hx e=>hof x.block (.inl (by rw [hx];rfl)) (.inl e),fun g hg x hx e=>((hgr g hg).2 x hx).2 (.inl e),hgs,(fun x hx e=>by have h1:=(hop.lt x.block (by rw [hx];rfl)).1;have h2:=HFb.out.2.state.lt;omega),(fun g hg x hx e=>by have h1:=((hgr g hg).2 x hx).1;have h2:=HFb.out.2.state.lt;omega)⟩)
    clear hS4 hV4 hf4 hb4 hOB hop hoq hgr hof hgs hpl4 ht4
    have cO:=dsk_open HR.out.1.dsk
    (try dsimp only)
    go_wp2_with fail
    refine cO.mono ?_
    rintro e w5 ⟨rfl,hN5⟩
    have HR5:=Lib.hid (show SysAt w5 p lb4 (opened T4) limit ns 0 begun (szs ns (only ns fr4)) false (grow F4 w4c w5) g4 c4 vz4∧Held w w5 sb (foot lb4 g4 vz4 (grow F4 w4c w5)) a1 cp1 ls (baseN base nums fr) begun aq4 cq4 (allSpots ns fr4)∧Pcs w5 ap gs from ⟨HR.out.1.disk hN5,HR.out.2.2.disk hN5,pcs_but HP.out.1 hN5.2 (fun _=>HP.out.2.1) HP.out.2.2.1⟩)
    have b0:w5.cell? ⟨sb,0,none⟩=some (.slice a1 ls.length cp1):=HR5.out.2.1.state.cell 0
    have b1:w5.cell? ⟨sb,1,none⟩=some (.int .i64 (baseN base nums fr)):=HR5.out.2.1.state.cell 1
    have b2:w5.cell? ⟨sb,2,none⟩=some (.bool begun):=HR5.out.2.1.state.cell 2
    have cQ:=opened_held HT.out.2.1 HR5.out.2.1 HS.out.2.2.2.2.2.1
    unfold stV at cQ
    clear cO hN5
    (try dsimp only)
    go_wp2_with fail
    refine cQ.mono ?_
    rintro e w6 ⟨rfl,hb6⟩
    have HR6:=Lib.hid (show SysAt w6 p lb4 (opened T4) limit ns 0 begun (szs ns (only ns fr4)) false (grow F4 w4c w5) g4 c4 vz4∧Held w w6 sb (foot lb4 g4 vz4 (grow F4 w4c w5)) a1 cp1 ls (baseN base nums fr) begun aq4 cq4 (allSpots ns fr4)∧Pcs w6 ap gs from ⟨HR5.out.1.below hb6,HR5.out.2.1.new hb6,HR5.out.2.2.below hb6⟩)
    clear b0 b1 b2 cQ hb6
    have b0:w6.cell? ⟨sb,0,none⟩=some (.slice a1 ls.length cp1):=HR6.out.2.1.state.cell 0
    have b1:w6.cell? ⟨sb,1,none⟩=some (.int .i64 (baseN base nums fr)):=HR6.out.2.1.state.cell 1
    have b2:w6.cell? ⟨sb,2,none⟩=some (.bool begun):=HR6.out.2.1.state.cell 2
    have f0:w6.frozen? ⟨sb,0,none⟩=false:=HR6.out.2.1.state.frozen 0
    have f1:w6.frozen? ⟨sb,1,none⟩=false:=HR6.out.2.1.state.frozen 1
    have f2:w6.frozen? ⟨sb,2,none⟩=false:=HR6.out.2.1.state.frozen 2
    obtain ⟨ls7,hls7⟩:∃ x,x=ls.take (all (kept base nums) fr).length:=⟨_,rfl⟩
    obtain ⟨n7,hn7⟩:∃ x,x=ls7.length:=⟨_,rfl⟩
    rw [← hls7,← hn7]
    have hka:=kept_all HT.out.2.1 HS.out.2.2.2.2.2.1
    have hfr:=HR6.out.2.1.front (all (kept base nums) fr).length hka.2
    rw [← hls7] at hka hfr
    have hk1:=hka.1.trans HALL.out.symm
    have hl7:n7≤ls.length:=by rw [hn7,hls7,List.length_take];omega
    have hcp:=HR6.out.2.1.lcap
    have hH7:=HR6.out.2.1.store (ls':=ls7) (B' := -1) (b':=begun) hfr.1 hfr.2.1 hfr.2.2 ⟨by omega,hcp.2⟩ HR6.out.2.1.lnil HR6.out.2.1.lone HR6.out.2.1.loff
    have hbt:=but_set3 w6 sb (.slice a1 n7 cp1) (.int .i64 (-1)) (.bool begun)
    rw [← hn7] at hH7
    obtain ⟨W7,hW7⟩:∃ V,V=(((w6.setCell ⟨sb,0,none⟩ (.slice a1 n7 cp1)).setCell ⟨sb,1,none⟩ (.int .i64 (-1))).setCell ⟨sb,2,none⟩ (.bool begun)):=⟨_,rfl⟩
    rw [← hW7] at hH7 hbt
    have hS7:=HR6.out.1.but_ hbt (fun j hj e=>HR6.out.2.1.sboff ((show j=sb from e) ▸ hj))
    have hpt:=pieces_told hk1 HP.out.2.2.2.1 hfr.2.1
    have hlk:=HS.out.2.2.2.2.2.2
    have hP7:Pcs W7 ap gs:=pcs_but HR6.out.2.2 hbt (fun _ x hx e=>HP.out.2.2.2.2.1 x hx e) (fun g hg x hx e=>HP.out.2.2.2.2.2 g hg x hx e)
    have cA:=as_any (cp:=cp4) (cap:=cp1) hS7 hP7 (by have:=HLIM.out.2.2.1;omega) hpt.2.2 hH7.lists (by have:=HLIM.out.2.2.1;omega) (fun g hg=>by have:=hfr.2.1 g hg;omega) (-1) begun
    rw [show (decide (gs.map (·.p.l)=ls7.map (·.l)) && (begun == begun))=true by rw [hpt.1];simp] at cA
    rw [← hn7] at cA
    unfold stV at cA
    have HR7:=Lib.hid (And.intro hS7 (And.intro hH7 (And.intro hk1 (show n7≤k by omega))))
    have HN7:=Lib.hid hn7
    clear hls7 hka hk1 hfr hcp hH7 hbt hS7 hpt hlk hP7 HR5 HR6 hl7 hn7
    (try dsimp only)
    go_wp2_with fail
    rw [← hW7]
    clear hW7
    refine cA.mono ?_
    rintro e w8 ⟨rfl,hb8⟩
    clear cA b0 b1 b2 f0 f1 f2
    have HR8:=Lib.hid (And.intro (HR7.out.1.below hb8) (HR7.out.2.1.new hb8))
    have b0:w8.cell? ⟨sb,0,none⟩=some (.slice a1 n7 cp1):=by rw [HN7.out];exact HR8.out.2.state.cell 0
    have b1:w8.cell? ⟨sb,1,none⟩=some (.int .i64 (-1)):=HR8.out.2.state.cell 1
    have b2:w8.cell? ⟨sb,2,none⟩=some (.bool begun):=HR8.out.2.state.cell 2
    have cW:=whole_any (cq:=cq4) (cp:=cp1) HR8.out.1 HR.out.2.1.opened rfl (by rw [spots_only];exact HR8.out.2.spots) HR8.out.2.lists (by rw [all_only];exact HR7.out.2.2.1) (by have:=HR7.out.2.2.2;have:=HN7.out;have:=HLIM.out.2.2.1;omega) (fun g hg=>by have:=HR8.out.2.few g hg;omega) (-1) begun
    rw [spots_only,← HN7.out] at cW
    unfold stV at cW
    clear hb8
    (try dsimp only)
    go_wp2_with fail
    refine cW.mono ?_
    rintro e w9 ⟨rfl,hb9⟩
    clear cW b0 b1 b2
    have HPR:=Lib.hid (prel_opened (limit:=limit) (cap:=cap) hlt HS.out.2.2.1 (by have:=HR7.out.2.2.2;have:=HN7.out;omega) HL4.out (HR8.out.1.below hb9) HR.out.2.1.opened (HR8.out.2.new hb9) HR7.out.2.2.1)
    clear hb9
    have hk50:k < 50:=by have:=HLIM.out.2.2.1;omega
    (try dsimp only)
    go_wp2_with fail
    exact HBACK.out _ _ _ _ _ _ _ _ _ _ _ _ _ _ _ _ _ _ _ _ _ _ _ _ _ _ _ _ _ _ _ _ _ _ _ _ _ _ _ _ _ _ _ _ _ _ _ _ _ _ _ _ _ _ _ _ _ _ _ _ _ _ _ _ _ _ _ _ _ _ _ _ _ _ _ _ _ _ _ _ _ _ _ _ _ _ _ _ _ _ _ _ _ _ _ _ _ _ _ _ _ _ _ _ _ _ _ _ _ _ _ _ _ _ _ _ _ _ _ _ _ _ _ _ _ _ _ _ _ _ _ _ _ _ _ _ _ _ _ _ _ _ _ _ _ _ _ _ _ _ _ _ _ _ _ _ _ _ _ _ _ _ _ _ _ _ _ _ _ _ _ _ _ _ _ _ _ _ _ _ _ _ _ _ _ _ _ _ _ _ _ _ _ _ _ _ _ _ _ _ _ _ _ _ _ _ _ _ _ _ _ _ _ _ _ _ _ _ _ _  HPR.out
   ·exact absurd rfl hpl4
end Go.Proofs.YtbhoknnjilidnaaGreatDoor.Seg
