import PyProof.Rows.All
import Wide.All
import OpenK.AllK
import Wide.FinOn
import Lean
import PyProof.EqAt
import PyProof.EqKinds
import PyProof.TupleCall
import PySem.Challenge.RW_boxnarrow_k48_closer
set_option Elab.async false
set_option linter.all false
set_option maxRecDepth 100000
set_option maxHeartbeats 40000000
namespace L2
open PySem PySem.Spec PyProof.Rows
def zaQ (s:Stmt)(j:Nat):Stmt:=match s with
 | .ClassDef _ _ _ body _ _ _ _ _ _ _=>body.getD j (.Pass ⟨0,0,0,0⟩)
 | _=>.Pass ⟨0,0,0,0⟩
def zd3 (s:Stmt):Arguments:=match s with
 | .FunctionDef _ a _ _ _ _ _ _ _ _=>a
 | _=>{ posonlyargs:=[],args:=[],vararg:=none,kwonlyargs:=[],kw_defaults:=[],kwarg:=none,defaults:=[] }
def zdb (s:Stmt):List Stmt:=match s with
 | .FunctionDef _ _ b _ _ _ _ _ _ _=>b
 | _=>[]
def zao (s:Stmt):Scope:=match s with
 | .FunctionDef _ _ _ _ _ _ sc _ _ _=>sc
 | _=>{ kind:=.function,names:=[],isGenerator:=false,isCoroutine:=false }
end L2
namespace L3
open PySem PySem.W PyProof.Rows PySem.Calls
def goT (tb:String→Option Builtin)(p:Program)(w:World)(n₀:Nat)(ann:Option Value):Nat→SharedT→Thread→Option SharedT
 | 0,_,_=>none
 | k + 1,s,t=>bif through t then some s else bif stepOk n₀ ann t then (stepT (denote tb) p w s t).bind (fun r=>goT tb p w n₀ ann k r.1 r.2) else none
theorem zpk {tb:String→Option Builtin}{p:Program}{w:World}{n₀:Nat}{ann:Option Value}:∀ {n:Nat} {s s':SharedT} {t:Thread},goT tb p w n₀ ann n s t=some s'→topRun tb p w n₀ ann n s.abs t=some s'.abs
 | 0,_,_,_,q=>nomatch q
 | n + 1,s,s',t,q=>by
  unfold goT at q
  unfold topRun
  cases c1:through t
  ·rw[c1] at q
   cases c2:stepOk n₀ ann t
   ·rw[c2] at q
    exact nomatch q
   ·rw[c2] at q
    obtain⟨⟨s2,t2⟩,c3,q⟩:=Option.bind_eq_some_iff.mp q
    rw[stepT_spec c3]
    exact zpk q
  ·rw[c1] at q
   cases q
   rfl
def znt (os:Array Obj):Nat→Nat→Nat→BT
 | 0,_,_=>.nil
 | f + 1,a,b=>match os[b]? with
  | some o=>.node o (znt os f (2 * a) (a + b)) (znt os f (2 * a) (2 * a + b))
  | none=>.nil
noncomputable def bootT (P:Params):BT:=znt (boot_heap P).objs 6 1 0
noncomputable abbrev zdh (w:World)(os:OsState):SharedT:=⟨bootT w.params,11,(boot_heap w.params).life,Array.mk [],boot_drawn,boot_toks,os⟩
def zms (s:SharedT)(a:Addr):Option Obj:=if a < s.n then (match s.tree.get a with | some o=>alive o | none=>s.abs.heap.get? a) else none
theorem zwk (s:SharedT)(a:Addr):s.abs.heap.get? a=zms s a:=by
 unfold zms
 split
 ·rename_i h
  cases e:s.tree.get a with
  | none=>rfl
  | some o=>exact abs_get h e
 ·rename_i h
  exact abs_get_none h
theorem zwG (l:List Addr)(s:SharedT):l.map s.abs.heap.get?=l.map (zms s):=List.map_congr_left fun a _=>zwk s a
noncomputable abbrev seenT (p q:Program)(loose:List Str)(Xt:Shared→Bool){α:Type}(YT:SharedT→α)(g0:Bool)(w:World)(s:SharedT):=
 ((staticsOk (importedModules p.main.body) (boot_heap w.params) s.abs.heap && namesBound p s.abs.heap && gensDone s.abs && laidKept (boot_heap w.params) s.abs.heap),openSeen q loose (importedModules p.main.body) Xt g0 s.abs,YT s)
theorem zsl {p q:Program}{loose:List Str}{Xt:Shared→Bool}{α:Type}{Yf:Shared→α}{YT:SharedT→α}{Ya:World→α}{N:Nat}{g0:Bool}{ann:Option Value}(hY:∀s:SharedT,Yf s.abs=YT s)(e:opening p=plainProg p.main.scope.names)(hN:Nat.ble 600 N=true)(f:∀s,fenceModules? p s=some s)
  (size:∀w:World,((boot_heap w.params).isNs mainGlobals && (Array.mk []:Array GenState).size == 0,(boot_heap w.params).objs.size,(boot_heap w.params).nsMap mainGlobals "__annotations__")=(true,11,ann))
  (run:∀w:World,(fun os=>(goT treeTable p w 11 ann N (zdh w os) (topStub p)).map fun s=>seenT p q loose Xt YT g0 w s)=fun _=>some (true,openGood q loose,Ya w)):LeftO p q loose Xt Yf Ya N g0:=fun w=>by
 obtain⟨⟨h,gs,d,k,os⟩,e1,e'⟩:=Option.map_eq_some_iff.mp (boot_open e hN f w)
 obtain⟨rfl,rfl,rfl,rfl⟩:h=boot_heap w.params∧gs=Array.mk []∧d=boot_drawn∧k=boot_toks:=by simpa using e'
 obtain⟨y1,y2,y3⟩:_∧_∧_:=by simpa only [Prod.mk.injEq] using size w
 obtain⟨s',r1,r2⟩:=Option.map_eq_some_iff.mp (congrFun (run w) os)
 obtain⟨l1,l2,l3⟩:_∧_∧_:=by simpa only [Prod.mk.injEq] using r2
 have r:topRun treeTable p w 11 ann N ⟨boot_heap w.params,Array.mk [],boot_drawn,boot_toks,os⟩ (topStub p)=some s'.abs:=by
  have z:=zpk r1
  exact z
 have t:topFrom treeTable p w N ⟨boot_heap w.params,Array.mk [],boot_drawn,boot_toks,os⟩=some s'.abs:=by
  unfold topFrom
  dsimp only
  rw[y1,y2,y3,r]
  show (match staticsOk (importedModules p.main.body) (boot_heap w.params) s'.abs.heap && namesBound p s'.abs.heap && gensDone s'.abs && laidKept (boot_heap w.params) s'.abs.heap with | true=>_ | false=>_)=_
  rw[l1]
 unfold openEnds
 rw[e1]
 show Option.map _ (topFrom treeTable p w N _)=_
 rw[t]
 exact congrArg some (Prod.ext l2 ((hY s').trans l3))
noncomputable abbrev zn9 (p:Program)(w:World)(s:SharedT):Bool:=staticsOk (importedModules p.main.body) (boot_heap w.params) s.abs.heap && namesBound p s.abs.heap && gensDone s.abs && laidKept (boot_heap w.params) s.abs.heap
theorem zxK {p q:Program}{loose:List Str}{Xt:Shared→Bool}{α:Type}{Yf:Shared→α}{YT:SharedT→α}{Ya:World→α}{N:Nat}{g0:Bool}{ann:Option Value}(hY:∀s:SharedT,Yf s.abs=YT s)(e:opening p=plainProg p.main.scope.names)(hN:Nat.ble 600 N=true)(f:∀s,fenceModules? p s=some s)
  (size:∀w:World,((boot_heap w.params).isNs mainGlobals && (Array.mk []:Array GenState).size == 0,(boot_heap w.params).objs.size,(boot_heap w.params).nsMap mainGlobals "__annotations__")=(true,11,ann))
  (ra:∀w:World,(fun os=>(goT treeTable p w 11 ann N (zdh w os) (topStub p)).map fun s=>(zn9 p w s,(openSeen q loose (importedModules p.main.body) Xt g0 s.abs).1))=fun _=>some (true,(openGood q loose).1))
  (rb:∀w:World,(fun os=>(goT treeTable p w 11 ann N (zdh w os) (topStub p)).map fun s=>((openSeen q loose (importedModules p.main.body) Xt g0 s.abs).2.1,(openSeen q loose (importedModules p.main.body) Xt g0 s.abs).2.2.1))=fun _=>some ((openGood q loose).2.1,(openGood q loose).2.2.1))
  (rc:∀w:World,(fun os=>(goT treeTable p w 11 ann N (zdh w os) (topStub p)).map fun s=>(openSeen q loose (importedModules p.main.body) Xt g0 s.abs).2.2.2)=fun _=>some (openGood q loose).2.2.2)
  (objs:∀w:World,(fun os=>(goT treeTable p w 11 ann N (zdh w os) (topStub p)).map YT)=fun _=>some (Ya w)):LeftO p q loose Xt Yf Ya N g0:=by
 refine zsl hY e hN f size fun w=>funext fun os=>?_
 obtain⟨s1,a1,b1⟩:=Option.map_eq_some_iff.mp (congrFun (ra w) os)
 obtain⟨s2,a2,b2⟩:=Option.map_eq_some_iff.mp (congrFun (rb w) os)
 obtain⟨s3,a3,b3⟩:=Option.map_eq_some_iff.mp (congrFun (rc w) os)
 obtain⟨s4,a4,b4⟩:=Option.map_eq_some_iff.mp (congrFun (objs w) os)
 rw[a1] at a2 a3 a4
 cases a2
 cases a3
 cases a4
 obtain⟨l1,l2⟩:=Prod.mk.inj b1
 obtain⟨l3,l4⟩:=Prod.mk.inj b2
 have l5:openSeen q loose (importedModules p.main.body) Xt g0 s1.abs=openGood q loose:=Prod.ext l2 (Prod.ext l3 (Prod.ext l4 b3))
 rw[a1]
 show some (zn9 p w s1,openSeen q loose (importedModules p.main.body) Xt g0 s1.abs,YT s1)=some (true,openGood q loose,Ya w)
 rw[l1,l5,b4]
end L3


namespace Mine
open PySem PySem.Spec PyProof.Rows L2 L3
def top (i:Nat):Stmt:=PySem.Challenge.pw_boxnarrow_k48_closer.main.body.getD i (.Pass ⟨0,0,0,0⟩)
theorem ws_eq:PySem.W.OpenLaw.wellSaid PySem.Challenge.rw_boxnarrow_k48_closer=true:=by decide +kernel
def vw:Program:={ PySem.Challenge.pw_boxnarrow_k48_closer with main:={ PySem.Challenge.pw_boxnarrow_k48_closer.main with body:=[top 0,top 2,top 3,top 4,top 5,top 6,top 7,top 8,top 10,top 11,top 13,top 14,top 16,top 17,top 18,top 19,top 20,top 21,top 22,top 23,top 24,top 26,top 27,top 28,top 29,top 30,top 31,top 32,top 33,top 34,top 36,top 37,top 39,top 41,top 42,top 43,top 44,top 45,top 46,top 47,top 48,top 49,top 50,top 51,top 52,top 53,top 54,top 56,top 57,top 58,top 59,top 60,top 61,top 62,top 63,top 64,top 65,top 66,top 67,top 68,top 69,top 70,top 71] } }
noncomputable abbrev de (P:Params)(s:Str)(t:Tok)(v:Value):DictEntry:=⟨PySem.PyData.keyHash P s,.str s t,v⟩
abbrev co (n q:Str)(a b c d:Tok)(i k:Int)(r s:Addr)(y z:Value)(t:Addr)(j:Int):Obj:=⟨.type "code",none,.fields #[.str n a,.str q b,.str "/claim/cut.py" c,.int i 0,.int k 0,.int 0 0,.int 0 0,.int 3 0,.ref r,.bool Bool.true,.int 181 0,.ref s,.none,y,z,.ref t,.int j 0,.int i 0,.str "/claim/cut.py" d],#[]⟩
abbrev fo (n q:Str)(st:Stmt)(m:Value)(c:Addr):Obj:=⟨.type "function",none,.func (PySem.W.fnOf n q (zd3 st) (zdb st) (zao st) .none .none .none m none (.ref c) .none),#[]⟩
noncomputable def kp:Params→PySem.W.Frag:=fun P=>
 (nat_lit 3,(.mk (.type "dict") none (.dict #[(de P "__name__" 165 (.str "law_boxnarrow_k48_closer" 990)),(de P "__doc__" 166 .none),(de P "__package__" 167 .none),(de P "__loader__" 168 (.builtin "__main__.__loader__#opaque")),(de P "__spec__" 169 .none),(de P "__annotations__" 170 (.ref 6)),(de P "__builtins__" 171 (.ref 4)),(de P "__file__" 173 (.str "/claim/cut.py" 172)),(de P "__cached__" 174 .none),(de P "_wall" 193 (.ref 21)),(de P "signed" 203 (.ref 28)),(de P "without" 209 (.ref 33)),(de P "cofactor" 218 (.ref 40)),(de P "determinant" 224 (.ref 45)),(de P "inverse_entry" 235 (.ref 52)),(de P "inverse_row" 241 (.ref 57)),(de P "inverse" 247 (.ref 62)),(de P "BoxError" 267 (.ref 72)),(de P "NoSpan" 283 (.ref 85)),(de P "raised" 295 (.ref 94)),(de P "less" 303 (.ref 101)),(de P "rounded_up" 313 (.ref 108)),(de P "span_of" 322 (.ref 115)),(de P "add_spans" 330 (.ref 122)),(de P "take_spans" 338 (.ref 129)),(de P "mul_spans" 348 (.ref 136)),(de P "raise_span" 354 (.ref 141)),(de P "scale_span" 362 (.ref 148)),(de P "deep" 370 (.ref 155)),(de P "middle" 377 (.ref 162)),(de P "Node" 399 (.ref 172)),(de P "Number" 467 (.ref 221)),(de P "Unknown" 527 (.ref 266)),(de P "Pair" 570 (.ref 297)),(de P "Plus" 639 (.ref 344)),(de P "Minus" 708 (.ref 391)),(de P "Times" 777 (.ref 438)),(de P "Power" 839 (.ref 483)),(de P "kind_of" 846 (.ref 492)),(de P "worths" 859 (.ref 499)),(de P "sure" 867 (.ref 506)),(de P "slopes" 881 (.ref 513)),(de P "equation_places" 889 (.ref 518)),(de P "picked" 895 (.ref 523)),(de P "middles" 901 (.ref 528)),(de P "box_of_middles" 907 (.ref 533)),(de P "sum_of_products" 919 (.ref 540)),(de P "lacking" 925 (.ref 545)),(de P "span_by" 931 (.ref 550)),(de P "step_by" 937 (.ref 555)),(de P "thin_worths" 947 (.ref 562)),(de P "slopes_at" 957 (.ref 569)),(de P "leasts_are_sure" 963 (.ref 574)),(de P "all_deep" 969 (.ref 579)),(de P "alone" 975 (.ref 584)),(de P "closer" 989 (.ref 591)),(de P "_law_cell" 999 (.ref 598)),(de P "_law_whole" 1006 (.ref 605)),(de P "_law_span" 1013 (.ref 612)),(de P "_law_spans" 1022 (.ref 619)),(de P "_law_lowest" 1032 (.ref 626)),(de P "_law_grid" 1039 (.ref 633)),(de P "_law_at" 1047 (.ref 640)),(de P "_law_factors" 1060 (.ref 647)),(de P "_law_sum" 1070 (.ref 654)),(de P "_law_holds" 1079 (.ref 661)),(de P "_law_point" 1093 (.ref 668)),(de P "_law_around" 1110 (.ref 675)),(de P "_law_rows" 1129 (.ref 682)),(de P "_law_within" 1138 (.ref 689)),(de P "_law_kept" 1149 (.ref 696)),(de P "law" 1155 (.ref 701))] 72) #[]))::
 (nat_lit 27,co "signed" "signed" 196 197 198 202 5 2 22 23 (.ref 24) (.ref 25) 26 201)::
 (nat_lit 28,fo "signed" "signed" (top 2) (.str "boxnarrow.matrices" 194) 27)::
 (nat_lit 32,co "without" "without" 204 205 206 208 7 3 29 30 .none .none 31 207)::
 (nat_lit 33,fo "without" "without" (top 3) (.str "boxnarrow.matrices" 194) 32)::
 (nat_lit 39,co "cofactor" "cofactor" 210 211 212 217 10 3 34 35 (.ref 36) (.ref 37) 38 216)::
 (nat_lit 40,fo "cofactor" "cofactor" (top 4) (.str "boxnarrow.matrices" 194) 39)::
 (nat_lit 44,co "determinant" "determinant" 219 220 221 223 12 1 41 42 .none .none 43 222)::
 (nat_lit 45,fo "determinant" "determinant" (top 5) (.str "boxnarrow.matrices" 194) 44)::
 (nat_lit 51,co "inverse_entry" "inverse_entry" 225 226 227 234 16 5 46 47 (.ref 48) (.ref 49) 50 233)::
 (nat_lit 52,fo "inverse_entry" "inverse_entry" (top 6) (.str "boxnarrow.matrices" 194) 51)::
 (nat_lit 56,co "inverse_row" "inverse_row" 236 237 238 240 18 4 53 54 .none .none 55 239)::
 (nat_lit 57,fo "inverse_row" "inverse_row" (top 7) (.str "boxnarrow.matrices" 194) 56)::
 (nat_lit 61,co "inverse" "inverse" 242 243 244 246 20 2 58 59 .none .none 60 245)::
 (nat_lit 62,fo "inverse" "inverse" (top 8) (.str "boxnarrow.matrices" 194) 61)::
 (nat_lit 71,(.mk (.type "dict") none (.dict #[(de P "__module__" 257 (.str "boxnarrow.errors" 248)),(de P "__firstlineno__" 261 (.int 26 260)),(de P "__static_attributes__" 262 (.ref 70)),(de P "__weakref__" 264 (.ref 73)),(de P "__doc__" 265 .none)] 3) #[]))::
 (nat_lit 72,(.mk (.type "type") none (.cls (PySem.ClassData.mk "BoxError" [(.type "ValueError")] [(.ref 72),(.type "ValueError"),(.type "Exception"),(.type "BaseException"),(.type "object")] 71 "BoxError" Bool.true [] [(.ref 85)] Bool.false none Bool.false)) #[(some (.ref 63)),none,(some (.str "BoxError" 250)),(some (.str "BoxError" 258)),(some (.builtin "ValueError.__new__")),(some (.bool Bool.true))]))::
 (nat_lit 84,(.mk (.type "dict") none (.dict #[(de P "__module__" 275 (.str "boxnarrow.errors" 248)),(de P "__firstlineno__" 279 (.int 28 278)),(de P "__static_attributes__" 280 (.ref 83)),(de P "__doc__" 281 .none)] 2) #[]))::
 (nat_lit 85,(.mk (.type "type") none (.cls (PySem.ClassData.mk "NoSpan" [(.ref 72)] [(.ref 85),(.ref 72),(.type "ValueError"),(.type "Exception"),(.type "BaseException"),(.type "object")] 84 "NoSpan" Bool.true [] [] Bool.false none Bool.false)) #[(some (.ref 76)),none,(some (.str "NoSpan" 268)),(some (.str "NoSpan" 276)),(some (.builtin "ValueError.__new__")),(some (.bool Bool.true))]))::
 (nat_lit 93,co "raised" "raised" 286 287 288 294 31 2 88 89 (.ref 90) (.ref 91) 92 293)::
 (nat_lit 94,fo "raised" "raised" (top 13) (.str "boxnarrow.fractions" 284) 93)::
 (nat_lit 100,co "less" "less" 296 297 298 302 36 2 95 96 (.ref 97) (.ref 98) 99 301)::
 (nat_lit 101,fo "less" "less" (top 14) (.str "boxnarrow.fractions" 284) 100)::
 (nat_lit 107,co "rounded_up" "rounded_up" 306 307 308 312 39 2 102 103 (.ref 104) (.ref 105) 106 311)::
 (nat_lit 108,fo "rounded_up" "rounded_up" (top 16) (.str "boxnarrow.spans" 304) 107)::
 (nat_lit 114,co "span_of" "span_of" 314 315 316 321 41 3 109 110 (.ref 111) (.ref 112) 113 320)::
 (nat_lit 115,fo "span_of" "span_of" (top 17) (.str "boxnarrow.spans" 304) 114)::
 (nat_lit 121,co "add_spans" "add_spans" 323 324 325 329 45 2 116 117 (.ref 118) (.ref 119) 120 328)::
 (nat_lit 122,fo "add_spans" "add_spans" (top 18) (.str "boxnarrow.spans" 304) 121)::
 (nat_lit 128,co "take_spans" "take_spans" 331 332 333 337 47 2 123 124 (.ref 125) (.ref 126) 127 336)::
 (nat_lit 129,fo "take_spans" "take_spans" (top 19) (.str "boxnarrow.spans" 304) 128)::
 (nat_lit 135,co "mul_spans" "mul_spans" 339 340 341 347 49 3 130 131 (.ref 132) (.ref 133) 134 346)::
 (nat_lit 136,fo "mul_spans" "mul_spans" (top 20) (.str "boxnarrow.spans" 304) 135)::
 (nat_lit 140,co "raise_span" "raise_span" 349 350 351 353 52 3 137 138 .none .none 139 352)::
 (nat_lit 141,fo "raise_span" "raise_span" (top 21) (.str "boxnarrow.spans" 304) 140)::
 (nat_lit 147,co "scale_span" "scale_span" 355 356 357 361 59 2 142 143 (.ref 144) (.ref 145) 146 360)::
 (nat_lit 148,fo "scale_span" "scale_span" (top 22) (.str "boxnarrow.spans" 304) 147)::
 (nat_lit 154,co "deep" "deep" 363 364 365 369 61 2 149 150 (.ref 151) (.ref 152) 153 368)::
 (nat_lit 155,fo "deep" "deep" (top 23) (.str "boxnarrow.spans" 304) 154)::
 (nat_lit 161,co "middle" "middle" 371 372 373 376 63 1 156 157 (.ref 158) (.ref 159) 160 375)::
 (nat_lit 162,fo "middle" "middle" (top 24) (.str "boxnarrow.spans" 304) 161)::
 (nat_lit 171,(.mk (.type "dict") none (.dict #[(de P "__module__" 387 (.str "boxnarrow.kinds" 378)),(de P "__firstlineno__" 391 (.int 66 390)),(de P "__static_attributes__" 392 (.ref 170)),(de P "__dict__" 394 (.ref 173)),(de P "__weakref__" 396 (.ref 174)),(de P "__doc__" 397 .none)] 4) #[]))::
 (nat_lit 172,(.mk (.type "type") none (.cls (PySem.ClassData.mk "Node" [(.type "object")] [(.ref 172),(.type "object")] 171 "Node" Bool.true [] [(.ref 221),(.ref 266),(.ref 297),(.ref 483)] Bool.false none Bool.false)) #[none,none,(some (.str "Node" 380)),(some (.str "Node" 388)),(some (.builtin "object.__new__")),(some (.bool Bool.true))]))::
 (nat_lit 189,co "__init__" "Number.__init__" 412 413 414 419 70 3 184 185 (.ref 186) (.ref 187) 188 418)::
 (nat_lit 190,fo "__init__" "Number.__init__" (zaQ (top 27) 0) (.str "boxnarrow.kinds" 378) 189)::
 (nat_lit 203,co "forth" "Number.forth" 430 431 432 439 77 4 198 199 (.ref 200) (.ref 201) 202 438)::
 (nat_lit 204,fo "forth" "Number.forth" (zaQ (top 27) 2) (.str "boxnarrow.kinds" 378) 203)::
 (nat_lit 217,co "slope" "Number.slope" 451 452 453 460 84 5 212 213 (.ref 214) (.ref 215) 216 459)::
 (nat_lit 218,fo "slope" "Number.slope" (zaQ (top 27) 4) (.str "boxnarrow.kinds" 378) 217)::
 (nat_lit 220,(.mk (.type "dict") none (.dict #[(de P "__module__" 407 (.str "boxnarrow.kinds" 378)),(de P "__firstlineno__" 411 (.int 68 410)),(de P "__init__" 420 (.ref 190)),(de P "exact" 429 (.ref 197)),(de P "forth" 440 (.ref 204)),(de P "back" 450 (.ref 211)),(de P "slope" 461 (.ref 218)),(de P "__static_attributes__" 464 (.ref 219)),(de P "__doc__" 465 .none)] 2) #[]))::
 (nat_lit 221,(.mk (.type "type") none (.cls (PySem.ClassData.mk "Number" [(.ref 172)] [(.ref 221),(.ref 172),(.type "object")] 220 "Number" Bool.true [] [] Bool.false none Bool.false)) #[(some (.ref 177)),none,(some (.str "Number" 400)),(some (.str "Number" 408)),(some (.builtin "object.__new__")),(some (.bool Bool.true))]))::
 (nat_lit 236,co "__init__" "Unknown.__init__" 480 481 482 486 88 2 231 232 (.ref 233) (.ref 234) 235 485)::
 (nat_lit 237,fo "__init__" "Unknown.__init__" (zaQ (top 28) 0) (.str "boxnarrow.kinds" 378) 236)::
 (nat_lit 250,co "forth" "Unknown.forth" 497 498 499 505 94 4 245 246 (.ref 247) (.ref 248) 249 504)::
 (nat_lit 251,fo "forth" "Unknown.forth" (zaQ (top 28) 2) (.str "boxnarrow.kinds" 378) 250)::
 (nat_lit 262,co "slope" "Unknown.slope" 517 518 519 521 100 5 259 260 .none .none 261 520)::
 (nat_lit 263,fo "slope" "Unknown.slope" (zaQ (top 28) 4) (.str "boxnarrow.kinds" 378) 262)::
 (nat_lit 265,(.mk (.type "dict") none (.dict #[(de P "__module__" 475 (.str "boxnarrow.kinds" 378)),(de P "__firstlineno__" 479 (.int 86 478)),(de P "__init__" 487 (.ref 237)),(de P "exact" 496 (.ref 244)),(de P "forth" 506 (.ref 251)),(de P "back" 516 (.ref 258)),(de P "slope" 522 (.ref 263)),(de P "__static_attributes__" 524 (.ref 264)),(de P "__doc__" 525 .none)] 2) #[]))::
 (nat_lit 266,(.mk (.type "type") none (.cls (PySem.ClassData.mk "Unknown" [(.ref 172)] [(.ref 266),(.ref 172),(.type "object")] 265 "Unknown" Bool.true [] [] Bool.false none Bool.false)) #[(some (.ref 224)),none,(some (.str "Unknown" 468)),(some (.str "Unknown" 476)),(some (.builtin "object.__new__")),(some (.bool Bool.true))]))::
 (nat_lit 281,co "__init__" "Pair.__init__" 540 541 542 547 104 3 276 277 (.ref 278) (.ref 279) 280 546)::
 (nat_lit 282,fo "__init__" "Pair.__init__" (zaQ (top 29) 0) (.str "boxnarrow.kinds" 378) 281)::
 (nat_lit 293,co "slope" "Pair.slope" 559 560 561 563 111 5 290 291 .none .none 292 562)::
 (nat_lit 294,fo "slope" "Pair.slope" (zaQ (top 29) 2) (.str "boxnarrow.kinds" 378) 293)::
 (nat_lit 296,(.mk (.type "dict") none (.dict #[(de P "__module__" 535 (.str "boxnarrow.kinds" 378)),(de P "__firstlineno__" 539 (.int 102 538)),(de P "__init__" 548 (.ref 282)),(de P "back" 558 (.ref 289)),(de P "slope" 564 (.ref 294)),(de P "__static_attributes__" 567 (.ref 295)),(de P "__doc__" 568 .none)] 2) #[]))::
 (nat_lit 297,(.mk (.type "type") none (.cls (PySem.ClassData.mk "Pair" [(.ref 172)] [(.ref 297),(.ref 172),(.type "object")] 296 "Pair" Bool.true [] [(.ref 344),(.ref 391),(.ref 438)] Bool.false none Bool.false)) #[(some (.ref 269)),none,(some (.str "Pair" 528)),(some (.str "Pair" 536)),(some (.builtin "object.__new__")),(some (.bool Bool.true))]))::
 (nat_lit 319,co "forth" "Plus.forth" 592 593 594 600 120 4 314 315 (.ref 316) (.ref 317) 318 599)::
 (nat_lit 320,fo "forth" "Plus.forth" (zaQ (top 30) 1) (.str "boxnarrow.kinds" 378) 319)::
 (nat_lit 340,co "slope_of_both" "Plus.slope_of_both" 624 625 626 634 129 6 335 336 (.ref 337) (.ref 338) 339 633)::
 (nat_lit 341,fo "slope_of_both" "Plus.slope_of_both" (zaQ (top 30) 4) (.str "boxnarrow.kinds" 378) 340)::
 (nat_lit 343,(.mk (.type "dict") none (.dict #[(de P "__module__" 578 (.str "boxnarrow.kinds" 378)),(de P "__firstlineno__" 582 (.int 115 581)),(de P "exact" 591 (.ref 313)),(de P "forth" 601 (.ref 320)),(de P "first_left" 612 (.ref 327)),(de P "second_left" 623 (.ref 334)),(de P "slope_of_both" 635 (.ref 341)),(de P "__static_attributes__" 636 (.ref 342)),(de P "__doc__" 637 .none)] 2) #[]))::
 (nat_lit 344,(.mk (.type "type") none (.cls (PySem.ClassData.mk "Plus" [(.ref 297)] [(.ref 344),(.ref 297),(.ref 172),(.type "object")] 343 "Plus" Bool.true [] [] Bool.false none Bool.false)) #[(some (.ref 300)),none,(some (.str "Plus" 571)),(some (.str "Plus" 579)),(some (.builtin "object.__new__")),(some (.bool Bool.true))]))::
 (nat_lit 366,co "forth" "Minus.forth" 661 662 663 669 136 4 361 362 (.ref 363) (.ref 364) 365 668)::
 (nat_lit 367,fo "forth" "Minus.forth" (zaQ (top 31) 1) (.str "boxnarrow.kinds" 378) 366)::
 (nat_lit 387,co "slope_of_both" "Minus.slope_of_both" 693 694 695 703 145 6 382 383 (.ref 384) (.ref 385) 386 702)::
 (nat_lit 388,fo "slope_of_both" "Minus.slope_of_both" (zaQ (top 31) 4) (.str "boxnarrow.kinds" 378) 387)::
 (nat_lit 390,(.mk (.type "dict") none (.dict #[(de P "__module__" 647 (.str "boxnarrow.kinds" 378)),(de P "__firstlineno__" 651 (.int 131 650)),(de P "exact" 660 (.ref 360)),(de P "forth" 670 (.ref 367)),(de P "first_left" 681 (.ref 374)),(de P "second_left" 692 (.ref 381)),(de P "slope_of_both" 704 (.ref 388)),(de P "__static_attributes__" 705 (.ref 389)),(de P "__doc__" 706 .none)] 2) #[]))::
 (nat_lit 391,(.mk (.type "type") none (.cls (PySem.ClassData.mk "Minus" [(.ref 297)] [(.ref 391),(.ref 297),(.ref 172),(.type "object")] 390 "Minus" Bool.true [] [] Bool.false none Bool.false)) #[(some (.ref 347)),none,(some (.str "Minus" 640)),(some (.str "Minus" 648)),(some (.builtin "object.__new__")),(some (.bool Bool.true))]))::
 (nat_lit 413,co "forth" "Times.forth" 730 731 732 738 152 4 408 409 (.ref 410) (.ref 411) 412 737)::
 (nat_lit 414,fo "forth" "Times.forth" (zaQ (top 32) 1) (.str "boxnarrow.kinds" 378) 413)::
 (nat_lit 434,co "slope_of_both" "Times.slope_of_both" 762 763 764 772 161 6 429 430 (.ref 431) (.ref 432) 433 771)::
 (nat_lit 435,fo "slope_of_both" "Times.slope_of_both" (zaQ (top 32) 4) (.str "boxnarrow.kinds" 378) 434)::
 (nat_lit 437,(.mk (.type "dict") none (.dict #[(de P "__module__" 716 (.str "boxnarrow.kinds" 378)),(de P "__firstlineno__" 720 (.int 147 719)),(de P "exact" 729 (.ref 407)),(de P "forth" 739 (.ref 414)),(de P "first_left" 750 (.ref 421)),(de P "second_left" 761 (.ref 428)),(de P "slope_of_both" 773 (.ref 435)),(de P "__static_attributes__" 774 (.ref 436)),(de P "__doc__" 775 .none)] 2) #[]))::
 (nat_lit 438,(.mk (.type "type") none (.cls (PySem.ClassData.mk "Times" [(.ref 297)] [(.ref 438),(.ref 297),(.ref 172),(.type "object")] 437 "Times" Bool.true [] [] Bool.false none Bool.false)) #[(some (.ref 394)),none,(some (.str "Times" 709)),(some (.str "Times" 717)),(some (.builtin "object.__new__")),(some (.bool Bool.true))]))::
 (nat_lit 453,co "__init__" "Power.__init__" 790 791 792 797 165 3 448 449 (.ref 450) (.ref 451) 452 796)::
 (nat_lit 454,fo "__init__" "Power.__init__" (zaQ (top 33) 0) (.str "boxnarrow.kinds" 378) 453)::
 (nat_lit 467,co "forth" "Power.forth" 808 809 810 816 172 4 462 463 (.ref 464) (.ref 465) 466 815)::
 (nat_lit 468,fo "forth" "Power.forth" (zaQ (top 33) 2) (.str "boxnarrow.kinds" 378) 467)::
 (nat_lit 479,co "slope" "Power.slope" 828 829 830 832 178 5 476 477 .none .none 478 831)::
 (nat_lit 480,fo "slope" "Power.slope" (zaQ (top 33) 4) (.str "boxnarrow.kinds" 378) 479)::
 (nat_lit 482,(.mk (.type "dict") none (.dict #[(de P "__module__" 785 (.str "boxnarrow.kinds" 378)),(de P "__firstlineno__" 789 (.int 163 788)),(de P "__init__" 798 (.ref 454)),(de P "exact" 807 (.ref 461)),(de P "forth" 817 (.ref 468)),(de P "back" 827 (.ref 475)),(de P "slope" 833 (.ref 480)),(de P "__static_attributes__" 836 (.ref 481)),(de P "__doc__" 837 .none)] 2) #[]))::
 (nat_lit 483,(.mk (.type "type") none (.cls (PySem.ClassData.mk "Power" [(.ref 172)] [(.ref 483),(.ref 172),(.type "object")] 482 "Power" Bool.true [] [] Bool.false none Bool.false)) #[(some (.ref 441)),none,(some (.str "Power" 778)),(some (.str "Power" 786)),(some (.builtin "object.__new__")),(some (.bool Bool.true))]))::
 (nat_lit 491,co "kind_of" "kind_of" 840 841 842 845 182 1 486 487 (.ref 488) (.ref 489) 490 844)::
 (nat_lit 492,fo "kind_of" "kind_of" (top 34) (.str "boxnarrow.kinds" 378) 491)::
 (nat_lit 498,co "worths" "worths" 849 850 851 858 195 3 493 494 (.ref 495) (.ref 496) 497 857)::
 (nat_lit 499,fo "worths" "worths" (top 36) (.str "boxnarrow.worths" 847) 498)::
 (nat_lit 505,co "sure" "sure" 860 861 862 866 200 2 500 501 (.ref 502) (.ref 503) 504 865)::
 (nat_lit 506,fo "sure" "sure" (top 37) (.str "boxnarrow.worths" 847) 505)::
 (nat_lit 512,co "slopes" "slopes" 870 871 872 880 205 3 507 508 (.ref 509) (.ref 510) 511 879)::
 (nat_lit 513,fo "slopes" "slopes" (top 39) (.str "boxnarrow.sloping" 868) 512)::
 (nat_lit 517,co "equation_places" "equation_places" 884 885 886 888 212 1 514 515 .none .none 516 887)::
 (nat_lit 518,fo "equation_places" "equation_places" (top 41) (.str "boxnarrow.alone" 882) 517)::
 (nat_lit 522,co "picked" "picked" 890 891 892 894 214 2 519 520 .none .none 521 893)::
 (nat_lit 523,fo "picked" "picked" (top 42) (.str "boxnarrow.alone" 882) 522)::
 (nat_lit 527,co "middles" "middles" 896 897 898 900 216 1 524 525 .none .none 526 899)::
 (nat_lit 528,fo "middles" "middles" (top 43) (.str "boxnarrow.alone" 882) 527)::
 (nat_lit 532,co "box_of_middles" "box_of_middles" 902 903 904 906 218 1 529 530 .none .none 531 905)::
 (nat_lit 533,fo "box_of_middles" "box_of_middles" (top 44) (.str "boxnarrow.alone" 882) 532)::
 (nat_lit 539,co "sum_of_products" "sum_of_products" 908 909 910 918 220 3 534 535 (.ref 536) (.ref 537) 538 917)::
 (nat_lit 540,fo "sum_of_products" "sum_of_products" (top 45) (.str "boxnarrow.alone" 882) 539)::
 (nat_lit 544,co "lacking" "lacking" 920 921 922 924 225 5 541 542 .none .none 543 923)::
 (nat_lit 545,fo "lacking" "lacking" (top 46) (.str "boxnarrow.alone" 882) 544)::
 (nat_lit 549,co "span_by" "span_by" 926 927 928 930 229 6 546 547 .none .none 548 929)::
 (nat_lit 550,fo "span_by" "span_by" (top 47) (.str "boxnarrow.alone" 882) 549)::
 (nat_lit 554,co "step_by" "step_by" 932 933 934 936 236 5 551 552 .none .none 553 935)::
 (nat_lit 555,fo "step_by" "step_by" (top 48) (.str "boxnarrow.alone" 882) 554)::
 (nat_lit 561,co "thin_worths" "thin_worths" 938 939 940 946 238 4 556 557 (.ref 558) (.ref 559) 560 945)::
 (nat_lit 562,fo "thin_worths" "thin_worths" (top 49) (.str "boxnarrow.alone" 882) 561)::
 (nat_lit 568,co "slopes_at" "slopes_at" 948 949 950 956 240 4 563 564 (.ref 565) (.ref 566) 567 955)::
 (nat_lit 569,fo "slopes_at" "slopes_at" (top 50) (.str "boxnarrow.alone" 882) 568)::
 (nat_lit 573,co "leasts_are_sure" "leasts_are_sure" 958 959 960 962 242 2 570 571 .none .none 572 961)::
 (nat_lit 574,fo "leasts_are_sure" "leasts_are_sure" (top 51) (.str "boxnarrow.alone" 882) 573)::
 (nat_lit 578,co "all_deep" "all_deep" 964 965 966 968 244 2 575 576 .none .none 577 967)::
 (nat_lit 579,fo "all_deep" "all_deep" (top 52) (.str "boxnarrow.alone" 882) 578)::
 (nat_lit 583,co "alone" "alone" 970 971 972 974 246 4 580 581 .none .none 582 973)::
 (nat_lit 584,fo "alone" "alone" (top 53) (.str "boxnarrow.alone" 882) 583)::
 (nat_lit 590,co "closer" "closer" 976 977 978 988 258 5 585 586 (.ref 587) (.ref 588) 589 987)::
 (nat_lit 591,fo "closer" "closer" (top 54) (.str "boxnarrow.alone" 882) 590)::
 (nat_lit 597,co "_law_cell" "_law_cell" 992 993 994 998 267 2 592 593 (.ref 594) (.ref 595) 596 997)::
 (nat_lit 598,fo "_law_cell" "_law_cell" (top 56) (.str "law_boxnarrow_k48_closer" 990) 597)::
 (nat_lit 604,co "_law_whole" "_law_whole" 1000 1001 1002 1005 271 1 599 600 (.ref 601) (.ref 602) 603 1004)::
 (nat_lit 605,fo "_law_whole" "_law_whole" (top 57) (.str "law_boxnarrow_k48_closer" 990) 604)::
 (nat_lit 611,co "_law_span" "_law_span" 1007 1008 1009 1012 273 1 606 607 (.ref 608) (.ref 609) 610 1011)::
 (nat_lit 612,fo "_law_span" "_law_span" (top 58) (.str "law_boxnarrow_k48_closer" 990) 611)::
 (nat_lit 618,co "_law_spans" "_law_spans" 1014 1015 1016 1021 277 2 613 614 (.ref 615) (.ref 616) 617 1020)::
 (nat_lit 619,fo "_law_spans" "_law_spans" (top 59) (.str "law_boxnarrow_k48_closer" 990) 618)::
 (nat_lit 625,co "_law_lowest" "_law_lowest" 1023 1024 1025 1031 284 2 620 621 (.ref 622) (.ref 623) 624 1030)::
 (nat_lit 626,fo "_law_lowest" "_law_lowest" (top 60) (.str "law_boxnarrow_k48_closer" 990) 625)::
 (nat_lit 632,co "_law_grid" "_law_grid" 1033 1034 1035 1038 290 1 627 628 (.ref 629) (.ref 630) 631 1037)::
 (nat_lit 633,fo "_law_grid" "_law_grid" (top 61) (.str "law_boxnarrow_k48_closer" 990) 632)::
 (nat_lit 639,co "_law_at" "_law_at" 1040 1041 1042 1046 296 2 634 635 (.ref 636) (.ref 637) 638 1045)::
 (nat_lit 640,fo "_law_at" "_law_at" (top 62) (.str "law_boxnarrow_k48_closer" 990) 639)::
 (nat_lit 646,co "_law_factors" "_law_factors" 1048 1049 1050 1059 300 3 641 642 (.ref 643) (.ref 644) 645 1058)::
 (nat_lit 647,fo "_law_factors" "_law_factors" (top 63) (.str "law_boxnarrow_k48_closer" 990) 646)::
 (nat_lit 653,co "_law_sum" "_law_sum" 1061 1062 1063 1069 307 2 648 649 (.ref 650) (.ref 651) 652 1068)::
 (nat_lit 654,fo "_law_sum" "_law_sum" (top 64) (.str "law_boxnarrow_k48_closer" 990) 653)::
 (nat_lit 660,co "_law_holds" "_law_holds" 1071 1072 1073 1078 312 3 655 656 (.ref 657) (.ref 658) 659 1077)::
 (nat_lit 661,fo "_law_holds" "_law_holds" (top 65) (.str "law_boxnarrow_k48_closer" 990) 660)::
 (nat_lit 667,co "_law_point" "_law_point" 1080 1081 1082 1092 314 4 662 663 (.ref 664) (.ref 665) 666 1091)::
 (nat_lit 668,fo "_law_point" "_law_point" (top 66) (.str "law_boxnarrow_k48_closer" 990) 667)::
 (nat_lit 674,co "_law_around" "_law_around" 1094 1095 1096 1109 323 4 669 670 (.ref 671) (.ref 672) 673 1108)::
 (nat_lit 675,fo "_law_around" "_law_around" (top 67) (.str "law_boxnarrow_k48_closer" 990) 674)::
 (nat_lit 681,co "_law_rows" "_law_rows" 1111 1112 1113 1128 335 3 676 677 (.ref 678) (.ref 679) 680 1127)::
 (nat_lit 682,fo "_law_rows" "_law_rows" (top 68) (.str "law_boxnarrow_k48_closer" 990) 681)::
 (nat_lit 688,co "_law_within" "_law_within" 1130 1131 1132 1137 351 2 683 684 (.ref 685) (.ref 686) 687 1136)::
 (nat_lit 689,fo "_law_within" "_law_within" (top 69) (.str "law_boxnarrow_k48_closer" 990) 688)::
 (nat_lit 695,co "_law_kept" "_law_kept" 1139 1140 1141 1148 358 4 690 691 (.ref 692) (.ref 693) 694 1147)::
 (nat_lit 696,fo "_law_kept" "_law_kept" (top 70) (.str "law_boxnarrow_k48_closer" 990) 695)::
 (nat_lit 700,co "law" "law" 1150 1151 1152 1154 366 1 697 698 .none .none 699 1153)::
 (nat_lit 701,fo "law" "law" (top 71) (.str "law_boxnarrow_k48_closer" 990) 700)::[]
def ks:List Addr:=nat_lit 3::nat_lit 27::nat_lit 28::nat_lit 32::nat_lit 33::nat_lit 39::nat_lit 40::nat_lit 44::nat_lit 45::nat_lit 51::nat_lit 52::nat_lit 56::nat_lit 57::nat_lit 61::nat_lit 62::nat_lit 71::nat_lit 72::nat_lit 84::nat_lit 85::nat_lit 93::nat_lit 94::nat_lit 100::nat_lit 101::nat_lit 107::nat_lit 108::nat_lit 114::nat_lit 115::nat_lit 121::nat_lit 122::nat_lit 128::nat_lit 129::nat_lit 135::nat_lit 136::nat_lit 140::nat_lit 141::nat_lit 147::nat_lit 148::nat_lit 154::nat_lit 155::nat_lit 161::nat_lit 162::nat_lit 171::nat_lit 172::nat_lit 189::nat_lit 190::nat_lit 203::nat_lit 204::nat_lit 217::nat_lit 218::nat_lit 220::nat_lit 221::nat_lit 236::nat_lit 237::nat_lit 250::nat_lit 251::nat_lit 262::nat_lit 263::nat_lit 265::nat_lit 266::nat_lit 281::nat_lit 282::nat_lit 293::nat_lit 294::nat_lit 296::nat_lit 297::nat_lit 319::nat_lit 320::nat_lit 340::nat_lit 341::nat_lit 343::nat_lit 344::nat_lit 366::nat_lit 367::nat_lit 387::nat_lit 388::nat_lit 390::nat_lit 391::nat_lit 413::nat_lit 414::nat_lit 434::nat_lit 435::nat_lit 437::nat_lit 438::nat_lit 453::nat_lit 454::nat_lit 467::nat_lit 468::nat_lit 479::nat_lit 480::nat_lit 482::nat_lit 483::nat_lit 491::nat_lit 492::nat_lit 498::nat_lit 499::nat_lit 505::nat_lit 506::nat_lit 512::nat_lit 513::nat_lit 517::nat_lit 518::nat_lit 522::nat_lit 523::nat_lit 527::nat_lit 528::nat_lit 532::nat_lit 533::nat_lit 539::nat_lit 540::nat_lit 544::nat_lit 545::nat_lit 549::nat_lit 550::nat_lit 554::nat_lit 555::nat_lit 561::nat_lit 562::nat_lit 568::nat_lit 569::nat_lit 573::nat_lit 574::nat_lit 578::nat_lit 579::nat_lit 583::nat_lit 584::nat_lit 590::nat_lit 591::nat_lit 597::nat_lit 598::nat_lit 604::nat_lit 605::nat_lit 611::nat_lit 612::nat_lit 618::nat_lit 619::nat_lit 625::nat_lit 626::nat_lit 632::nat_lit 633::nat_lit 639::nat_lit 640::nat_lit 646::nat_lit 647::nat_lit 653::nat_lit 654::nat_lit 660::nat_lit 661::nat_lit 667::nat_lit 668::nat_lit 674::nat_lit 675::nat_lit 681::nat_lit 682::nat_lit 688::nat_lit 689::nat_lit 695::nat_lit 696::nat_lit 700::nat_lit 701::[]
theorem zfI (P:Params):ks=(kp P).map (·.1):=by kernel_rfl
noncomputable abbrev hk:PySem.W.Hook:=PySem.W.kHook kp ks zfI
abbrev xt (s:Shared):Bool:=PySem.W.xlAt vw [] s && PySem.W.recOk (PySem.W.RowW.records (PySem.W.OpenRow.toRowW (PySem.W.OpenLaw.row PySem.Challenge.rw_boxnarrow_k48_closer))) s
theorem zoh:PySem.W.opening PySem.Challenge.pw_boxnarrow_k48_closer=PySem.W.plainProg PySem.Challenge.pw_boxnarrow_k48_closer.main.scope.names:=by kernel_rfl
theorem fe_eq (s:Shared):PySem.fenceModules? PySem.Challenge.pw_boxnarrow_k48_closer s=some s:=by kernel_rfl
theorem si_eq (w:World):((PySem.W.boot_heap w.params).isNs mainGlobals && (Array.mk []:Array GenState).size == 0,(PySem.W.boot_heap w.params).objs.size,(PySem.W.boot_heap w.params).nsMap mainGlobals "__annotations__")=(true,11,some (.ref 6)):=by kernel_rfl
open PySem.Calls in
theorem ra_eq (w:World):(fun os=>(L3.goT PySem.treeTable PySem.Challenge.pw_boxnarrow_k48_closer w 11 (some (.ref 6)) 9928 (L3.zdh w os) (PySem.W.topStub PySem.Challenge.pw_boxnarrow_k48_closer)).map fun s=>(L3.zn9 PySem.Challenge.pw_boxnarrow_k48_closer w s,(PySem.W.openSeen vw [] (importedModules PySem.Challenge.pw_boxnarrow_k48_closer.main.body) xt true s.abs).1))=fun _=>some (true,(PySem.W.openGood vw []).1):=by kernel_rfl
open PySem.Calls in
theorem rb_eq (w:World):(fun os=>(L3.goT PySem.treeTable PySem.Challenge.pw_boxnarrow_k48_closer w 11 (some (.ref 6)) 9928 (L3.zdh w os) (PySem.W.topStub PySem.Challenge.pw_boxnarrow_k48_closer)).map fun s=>((PySem.W.openSeen vw [] (importedModules PySem.Challenge.pw_boxnarrow_k48_closer.main.body) xt true s.abs).2.1,(PySem.W.openSeen vw [] (importedModules PySem.Challenge.pw_boxnarrow_k48_closer.main.body) xt true s.abs).2.2.1))=fun _=>some ((PySem.W.openGood vw []).2.1,(PySem.W.openGood vw []).2.2.1):=by kernel_rfl
open PySem.Calls in
theorem rc_eq (w:World):(fun os=>(L3.goT PySem.treeTable PySem.Challenge.pw_boxnarrow_k48_closer w 11 (some (.ref 6)) 9928 (L3.zdh w os) (PySem.W.topStub PySem.Challenge.pw_boxnarrow_k48_closer)).map fun s=>(PySem.W.openSeen vw [] (importedModules PySem.Challenge.pw_boxnarrow_k48_closer.main.body) xt true s.abs).2.2.2)=fun _=>some (PySem.W.openGood vw []).2.2.2:=by kernel_rfl
open PySem.Calls in
theorem ob_eq (w:World):(fun os=>(L3.goT PySem.treeTable PySem.Challenge.pw_boxnarrow_k48_closer w 11 (some (.ref 6)) 9928 (L3.zdh w os) (PySem.W.topStub PySem.Challenge.pw_boxnarrow_k48_closer)).map fun s=>ks.map (L3.zms s))=fun _=>some (hk.val w):=by kernel_rfl
theorem left:PySem.W.LeftO PySem.Challenge.pw_boxnarrow_k48_closer vw [] xt hk.obs hk.val 9928:=L3.zxK (L3.zwG ks) zoh (by decide) fe_eq si_eq ra_eq rb_eq rc_eq ob_eq
end Mine

set_option Elab.async false
set_option linter.all false
set_option maxRecDepth 100000
namespace L2
open PySem PySem.Spec PyProof.Rows

abbrev Key:=Sum Int Str
def zqp:Key→Value→Bool
 | .inl k,v=>Value.isInt k v
 | .inr x,v=>Value.isStrOf x v
def keyH (w:World):Key→Int
 | .inl k=>hashInt k
 | .inr x=>hashStr w x
theorem zda:∀ {k:Key} {v:Value},zqp k v=true→(∃i t,k=Sum.inl i∧v=Value.int i t)∨(∃x t,k=Sum.inr x∧v=Value.str x t)
 | .inl i,v,h=>by
  obtain⟨t,e⟩:=Value.isInt_shape (k:=i) (v:=v) h
  exact .inl ⟨i,t,rfl,e⟩
 | .inr x,v,h=>by
  obtain⟨t,e⟩:=Value.isStrOf_shape (x:=x) (v:=v) h
  exact .inr ⟨x,t,rfl,e⟩
theorem zuD (a b:Int):decide ((Sum.inl a:Key)=Sum.inl b)=(a == b):=by
 by_cases e:a=b
 ·subst e; simp
 ·have h:¬ (Sum.inl a:Key)=Sum.inl b:=fun q=>e (Sum.inl.inj q)
  rw[decide_eq_false h]
  exact(beq_eq_false_iff_ne.mpr e).symm
theorem zxu (a b:Str):decide ((Sum.inr a:Key)=Sum.inr b)=decide (a=b):=by
 by_cases e:a=b
 ·subst e; simp
 ·have h:¬ (Sum.inr a:Key)=Sum.inr b:=fun q=>e (Sum.inr.inj q)
  rw[decide_eq_false h,decide_eq_false e]
theorem zru (a:Int)(b:Str):decide ((Sum.inl a:Key)=Sum.inr b)=false:=decide_eq_false (fun q=>nomatch q)
theorem zrX (a:Str)(b:Int):decide ((Sum.inr a:Key)=Sum.inl b)=false:=decide_eq_false (fun q=>nomatch q)

def zqf (prog:Program)(w:World):PySem.KeyKind prog w Key where
 is:=zqp
 hash:=keyH w
 inj:=fun v a b ha hb=>by
  rcases zda ha with ⟨i,t,rfl,rfl⟩ | ⟨x,t,rfl,rfl⟩
  ·rcases zda hb with ⟨j,u,rfl,e⟩ | ⟨y,u,rfl,e⟩
   ·injection e with e1 _; rw[e1]
   ·exact nomatch e
  ·rcases zda hb with ⟨j,u,rfl,e⟩ | ⟨y,u,rfl,e⟩
   ·exact nomatch e
   ·injection e with e1 _; rw[e1]
 byValue:=fun k v h=>by
  rcases zda h with ⟨i,t,rfl,rfl⟩ | ⟨x,t,rfl,rfl⟩ <;> rfl
 pyHash:=fun hv h=>by
  rcases zda hv with ⟨i,t,rfl,rfl⟩ | ⟨x,t,rfl,rfl⟩
  ·exact wpAny_pyHash_int h
  ·exact wpAny_pyHash_str h
 eqBool:=fun hu hv h=>by
  rcases zda hu with ⟨i,t,rfl,rfl⟩ | ⟨x,t,rfl,rfl⟩
  ·rcases zda hv with ⟨j,u,rfl,rfl⟩ | ⟨y,u,rfl,rfl⟩
   ·rw[zuD] at h; exact wpAny_eqBool_int h
   ·rw[zru] at h; exact SeqAt.EqAt.int_str i t y u _ _ _ _ h
  ·rcases zda hv with ⟨j,u,rfl,rfl⟩ | ⟨y,u,rfl,rfl⟩
   ·rw[zrX] at h; exact SeqAt.EqAt.str_int x t j u _ _ _ _ h
   ·rw[zxu] at h; exact wpAny_eqBool_str h
 «strs»:=fun k x t v h=>by
  rcases zda h with ⟨i,u,rfl,e⟩ | ⟨y,u,rfl,e⟩
  ·exact nomatch e
  ·injection e with e1 _
   subst e1
   cases v <;> rfl

end L2

namespace L2
open PySem PySem.Spec PyProof.Rows

inductive V where
 | non | bl (b:Bool) | int (i:Int) | str (x:Str) | byt (b:Array UInt8) | flt (b:UInt64) | ref (a:Addr) | ty (n:String)
 deriving DecidableEq

def zav:V→Value→Prop
 | .non,u=>u=Value.none
 | .bl b,u=>u=Value.bool b
 | .int i,u=>∃t,u=Value.int i t
 | .str x,u=>∃t,u=Value.str x t
 | .byt b,u=>∃t,u=Value.bytes b t
 | .flt b,u=>∃t,u=Value.float b t
 | .ref a,u=>u=Value.ref a
 | .ty n,u=>u=Value.type n

abbrev zat:List V→List Value→Prop:=Paired zav
theorem zat.length {xs:List V}{us:List Value}(r:zat xs us):xs.length=us.length:=Paired.length r
theorem zat.get:∀ {xs:List V} {us:List Value} {i:Nat} {x:V},zat xs us→xs[i]?=some x→∃u,us[i]?=some u∧zav x u
 | _,_,_,_,.nil,e=>by simp at e
 | _,_,0,_,.cons r _,e=>by simp at e; subst e; exact⟨_,rfl,r⟩
 | _,_,i + 1,x,.cons _ t,e=>by
  obtain⟨u,h1,h2⟩:=zat.get (i:=i) (x:=x) t (by simpa using e)
  exact⟨u,by simpa using h1,h2⟩
theorem zat.set {x:V}{u:Value}(r:zav x u):∀ {xs:List V} {us:List Value} (i:Nat),zat xs us→zat (xs.set i x) (us.set i u)
 | _,_,_,.nil=>.nil
 | _,_,0,.cons _ t=>.cons r t
 | _,_,i + 1,.cons q t=>.cons q (zat.set r i t)
theorem zat.append:∀ {xs ys:List V} {us ws:List Value},zat xs us→zat ys ws→zat (xs++ys) (us++ws)
 | _,_,_,_,.nil,s=>s
 | _,_,_,_,.cons r t,s=>.cons r (zat.append t s)
theorem zat.take:∀ {xs:List V} {us:List Value} (n:Nat),zat xs us→zat (xs.take n) (us.take n)
 | _,_,0,_=>.nil
 | _,_,_ + 1,.nil=>.nil
 | _,_,n + 1,.cons r t=>.cons r (zat.take n t)
theorem zat.drop:∀ {xs:List V} {us:List Value} (n:Nat),zat xs us→zat (xs.drop n) (us.drop n)
 | _,_,0,r=>r
 | _,_,_ + 1,.nil=>.nil
 | _,_,n + 1,.cons _ t=>zat.drop n t
theorem zat.none_of:∀ {xs:List V} {us:List Value} {i:Nat},zat xs us→xs[i]?=none→us[i]?=none:=fun {xs us i} r e=>by
 have h1:=r.length
 have h2:xs.length≤i:=List.getElem?_eq_none_iff.mp e
 exact List.getElem?_eq_none_iff.mpr (by omega)

def zbR:Option V→Option Value→Prop
 | some v,some u=>zav v u
 | none,none=>True
 | _,_=>False
def KV {κ:Type}:List (κ×V)→List (κ×Value)→Prop:=Paired fun (p:κ×V) (q:κ×Value)=>p.1=q.1∧zav p.2 q.2

def kV:Key→V
 | .inl i=>.int i
 | .inr x=>.str x

inductive HO where
  | lst (xs:List V)
  | tup (xs:List V)
  | dK (kvs:List (Key×V)) | dT (kvs:List (List Key×V))
  | set (S:Int→Bool) (n:Nat)
  | ins (C dx:Addr) (fs:List (Str×V))
  | own (x:Addr)
  | xd (fs:List (Str×V))
  | met (f x:Addr)
  | rng (lo hi:Int)
  | frz (o:Obj) (u:HO)
  | tbl (ps:Array Value)
  | ext (φ:Heap→Prop)

abbrev Hp:=Addr→Option HO
def upd (H:Hp)(a:Addr)(o:HO):Hp:=fun b=>if b=a then some o else H b
theorem zcC {H:Hp}{a:Addr}{o:HO}:upd H a o a=some o:=by unfold upd; rw[if_pos rfl]
theorem za2 {H:Hp}{a b:Addr}{o:HO}(h:b≠a):upd H a o b=H b:=by unfold upd; rw[if_neg h]
theorem zoG {H:Hp}{a b:Addr}{o u:HO}(h:H a=some o)(h':H b=some u)(d:o≠u):a≠b:=by
 intro e; subst e; rw[h] at h'; exact d (Option.some.inj h')
theorem zdv {H:Hp}{a b:Addr}{o:HO}(h:H a=some o)(h':H b=none):a≠b:=by
 intro e; subst e; rw[h] at h'; cases h'

section
variable (P:Program)(w:World)
def zbx (H:Hp)(h:Heap)(a:Addr):HO→Prop
 | .lst xs=>xs.length≤sizeLine∧∃(its:List Value) (n:Nat),zat xs its∧h.get? a=some { cls:=.type "list",data:=.seq its.toArray n }
 | .tup xs=>xs.length≤sizeLine∧∃its:List Value,zat xs its∧IsTup h a its.toArray
 | .dK kvs=>kvs.length≤sizeLine∧(a == sysModules)=false∧∃vs,KV kvs vs∧h.DictOf (zqf P w) a vs
 | .dT kvs=>kvs.length≤sizeLine∧(a == sysModules)=false∧∃xs:List (List Key×Addr×Value),
   Paired (fun (p:List Key×V) (q:List Key×Addr×Value)=>p.1=q.1∧H q.2.1=some (.tup (p.1.map kV))∧zav p.2 q.2.2) kvs xs∧
   ∃o es ep,h.get? a=some o∧o.ExactDict∧o.data=.dict es ep∧es.toList=xs.map (entryOfKey (tupleKind (zqf P w)))∧(xs.map (·.1)).Nodup
 | .set S n=>h.SetOf (intKind P w) a S n
 | .ins C dx fs=>H dx=some (.own a)∧fs.length≤1000∧dx≠a∧h.get? a=some (PySem.W.instObj C dx)∧
   ∃mA,h.Ns1 dx mA∧(∀f,zbR (fs.lookup f) (mA f))∧PySem.Within mA (fs.map (·.1))
 | .own _=>∃o,h.get? a=some o
 | .xd fs=>∃mA,h.Ns1 a mA∧∀f,zbR (fs.lookup f) (mA f)
 | .rng lo hi=>∃t u v,h.get? a=some { cls:=.type "range",data:=.fields #[.int lo t,.int hi u,.int 1 v] }
 | .frz o u=>h.get? a=some o∧zbx H h a u
 | .tbl ps=>h.get? a=some { cls:=.none,data:=.fields ps }
 | .met f x=>h.get? a=some (PySem.W.methodObj (.ref f) (.ref x))
 | .ext φ=>φ h∧(∃o,h.get? a=some o)∧∀h1 h2:Heap,φ h1→(∀o,h1.get? a=some o→h2.get? a=some o)→φ h2
def HOk (H:Hp)(h:Heap):Prop:=∀a o,H a=some o→zbx P w H h a o
end

section
variable {P:Program}{w:World}{H H':Hp}{h h':Heap}{a:Addr}{o:HO}
theorem zbx.lt (x:zbx P w H h a o):a < h.objs.size:=by
 cases o with
 | lst xs=>obtain⟨_,_,_,_,e⟩:=x; exact Heap.lt_size e
 | tup xs=>obtain⟨_,_,_,p⟩:=x; exact p.lt
 | dK kvs=>obtain⟨_,_,_,_,o,_,_,e,_⟩:=x; exact Heap.lt_size e
 | dT kvs=>obtain⟨_,_,_,_,o,_,_,e,_⟩:=x; exact Heap.lt_size e
 | set S n=>obtain⟨o,_,_,_,e,_⟩:=x; exact Heap.lt_size e
 | ins C dx fs=>obtain⟨_,_,_,e,_⟩:=x; exact Heap.lt_size e
 | own y=>obtain⟨_,e⟩:=x; exact Heap.lt_size e
 | xd fs=>obtain⟨_,⟨_,_,_,e,_⟩,_⟩:=x; exact Heap.lt_size e
 | rng lo hi=>obtain⟨_,_,_,e⟩:=x; exact Heap.lt_size e
 | frz ob u=>obtain⟨e,_⟩:=x; exact Heap.lt_size e
 | tbl ps=>exact Heap.lt_size (show h.get? a=some _ from x)
 | met f y=>exact Heap.lt_size (show h.get? a=some _ from x)
 | ext φ=>obtain⟨_,⟨_,e⟩,_⟩:=x; exact Heap.lt_size e
theorem Paired.mapP {α β:Type}{F G:α→β→Prop}:∀ {l₁:List α} {l₂:List β},Paired F l₁ l₂→(∀a b,F a b→G a b)→Paired G l₁ l₂
 | _,_,.nil,_=>.nil
 | _,_,.cons r t,f=>.cons (f _ _ r) (Paired.mapP t f)
theorem zbx.stay (x:zbx P w H h a o)(k:∀b u,(b=a∨H b=some (.own a))→h.get? b=some u→h'.get? b=some u)
  (ho:∀b,H b=some (.own a)→H' b=some (.own a))(ht:∀b xs,H b=some (.tup xs)→H' b=some (.tup xs)):zbx P w H' h' a o:=by
 induction o with
 | lst xs=>obtain⟨z,its,n,r,e⟩:=x; exact⟨z,its,n,r,k _ _ (.inl rfl) e⟩
 | tup xs=>obtain⟨z,its,r,ob,e,c⟩:=x; exact⟨z,its,r,ob,k _ _ (.inl rfl) e,c⟩
 | dK kvs=>obtain⟨z,y,vs,r,ob,es,ep,e,c⟩:=x; exact⟨z,y,vs,r,ob,es,ep,k _ _ (.inl rfl) e,c⟩
 | dT kvs=>
  obtain⟨z,y,xs,r,ob,es,ep,e,c⟩:=x
  exact⟨z,y,xs,Paired.mapP r fun p q z=>⟨z.1,ht _ _ z.2.1,z.2.2⟩,ob,es,ep,k _ _ (.inl rfl) e,c⟩
 | set S n=>obtain⟨ob,es,ep,t,e,c⟩:=x; exact⟨ob,es,ep,t,k _ _ (.inl rfl) e,c⟩
 | ins C dx fs=>
  obtain⟨d,z,ne,e,mA,⟨od,es,ep,e2,c⟩,r⟩:=x
  exact⟨ho _ d,z,ne,k _ _ (.inl rfl) e,mA,⟨od,es,ep,k _ _ (.inr d) e2,c⟩,r⟩
 | own y=>obtain⟨ob,e⟩:=x; exact⟨ob,k _ _ (.inl rfl) e⟩
 | xd fs=>obtain⟨mA,⟨od,es,ep,e,c⟩,r⟩:=x; exact⟨mA,⟨od,es,ep,k _ _ (.inl rfl) e,c⟩,r⟩
 | rng lo hi=>obtain⟨t,u,v,e⟩:=x; exact⟨t,u,v,k _ _ (.inl rfl) e⟩
 | frz ob u ih=>obtain⟨e,q⟩:=x; exact⟨k _ _ (.inl rfl) e,ih q⟩
 | tbl ps=>
  have e:h.get? a=some { cls:=.none,data:=.fields ps }:=x
  show h'.get? a=some { cls:=.none,data:=.fields ps }
  exact k a _ (.inl rfl) e
 | met f y=>
  have e:h.get? a=some (PySem.W.methodObj (.ref f) (.ref y)):=x
  show h'.get? a=some (PySem.W.methodObj (.ref f) (.ref y))
  exact k a _ (.inl rfl) e
 | ext φ=>obtain⟨p,⟨o,e⟩,st⟩:=x; exact⟨st _ _ p fun o q=>k _ _ (.inl rfl) q,⟨o,k _ _ (.inl rfl) e⟩,st⟩
theorem HOk.lt (x:HOk P w H h)(e:H a=some o):a < h.objs.size:=(x a o e).lt
theorem HOk.fresh (x:HOk P w H h)(e:h.objs.size≤a):H a=none:=by
 cases q:H a with
 | none=>rfl
 | some u=>exact absurd (Nat.lt_of_lt_of_le (x.lt q) e) (Nat.lt_irrefl _)
theorem HOk.kept (x:HOk P w H h)(k:∀b u,h.get? b=some u→h'.get? b=some u):HOk P w H h':=fun a o e=>
 (x a o e).stay (fun b u _ q=>k b u q) (fun _ q=>q) fun _ _ q=>q
theorem HOk.laid (x:HOk P w H h)(k:∀b u,h.get? b=some u→h'.get? b=some u)(hp:h.objs.size≤a)(new:zbx P w (upd H a o) h' a o):HOk P w (upd H a o) h':=fun b u e=>by
 have hn:=x.fresh hp
 by_cases hb:b=a
 ·subst hb; rw[zcC] at e; cases e; exact new
 ·rw[za2 hb] at e
  exact(x b u e).stay (fun c v _ q=>k c v q) (fun c q=>by rw[za2 (zdv q hn)]; exact q) fun c xs q=>by rw[za2 (zdv q hn)]; exact q
end

def Rd (H:Hp)(a:Addr)(u:HO):Prop:=H a=some u∨∃o,H a=some (.frz o u)
theorem Rd.of {H:Hp}{a:Addr}{u:HO}(h:H a=some u):Rd H a u:=.inl h
theorem Rd.ok {P:Program}{w:World}{H:Hp}{h:Heap}{a:Addr}{u:HO}(r:Rd H a u)(x:HOk P w H h):zbx P w H h a u:=by
 rcases r with r | ⟨o,r⟩
 ·exact x a u r
 ·obtain⟨_,q⟩:=x a _ r
  exact q
def Mut:Option HO→Prop
 | some (.lst _)=>True
 | some (.dK _)=>True
 | some (.dT _)=>True
 | some (.set _ _)=>True
 | some (.ins _ _ _)=>True
 | some (.ext _)=>True
 | _=>False
section
variable {P:Program}{w:World}{H:Hp}{h h':Heap}{x e:Addr}{o':HO}
theorem HOk.write (ok:HOk P w H h)(mu:Mut (H x))(he:e=x∨H e=some (.own x))(k:∀b u,b≠e→h.get? b=some u→h'.get? b=some u)(heo:∃u,h'.get? e=some u)
  (new:zbx P w (upd H x o') h' x o'):HOk P w (upd H x o') h':=fun b u q=>by
 have nown:∀c y,H c=some (.own y)→c≠x:=fun c y r z=>by subst z; rw[r] at mu; exact mu
 have ntup:∀c xs,H c=some (.tup xs)→c≠x:=fun c xs r z=>by subst z; rw[r] at mu; exact mu
 by_cases hb:b=x
 ·subst hb; rw[zcC] at q; cases q; exact new
 ·rw[za2 hb] at q
  by_cases hbe:b=e
  ·have q':H b=some (.own x):=by
    rcases he with z | z
    ·exact absurd (hbe.trans z) hb
    ·rw[hbe]; exact z
   rw[q] at q'; cases q'
   obtain⟨v,hv⟩:=heo
   exact⟨v,by rw[hbe]; exact hv⟩
  ·refine(ok b u q).stay (fun c v hc r=>k c v ?_ r) (fun c r=>by rw[za2 (nown c b r)]; exact r) fun c xs r=>by rw[za2 (ntup c xs r)]; exact r
   rcases hc with rfl | hc
   ·exact hbe
   ·rintro rfl
    rcases he with z | z
    ·exact nown c b hc z
    ·rw[hc] at z; cases z; exact hb rfl
end

structure Un (fs ex:List Addr)(H H':Hp)(h h':Heap):Prop where
 keep:∀b o,h.get? b=some o→H b=none→b ∉ fs→b ∉ ex→h'.get? b=some o
 slot:∀b o,h.get? b=some o→H b=none→b∈fs→b ∉ ex→∃sl,h'.get? b=some { o with slots:=sl }
 free:∀b o,h.get? b=some o→H b=none→b ∉ ex→H' b=none
 there:∀b o,h.get? b=some o→b ∉ ex→∃o',h'.get? b=some o'
 tups:∀b xs,H b=some (.tup xs)→H' b=some (.tup xs)
 frzs:∀b o u,H b=some (.frz o u)→H' b=some (.frz o u)
 tbls:∀b ps,H b=some (.tbl ps)→∃more,H' b=some (.tbl (ps++more))
section
variable {fs fs' ex ex':List Addr}{H H1 H2:Hp}{h h1 h2 h':Heap}{a x e:Addr}{o:HO}
theorem Un.any (u:Un fs ex H H1 h h1){b:Addr}{ob:Obj}(q:h.get? b=some ob)(n:H b=none)(hx:b ∉ ex):∃sl,h1.get? b=some { ob with slots:=sl }:=by
 by_cases hb:b∈fs
 ·exact u.slot b ob q n hb hx
 ·exact⟨ob.slots,u.keep b ob q n hb hx⟩
theorem Un.trans (a:Un fs ex H H1 h h1)(b:Un fs ex H1 H2 h1 h2):Un fs ex H H2 h h2 where
 keep:=fun c ob q n hc hx=>b.keep c ob (a.keep c ob q n hc hx) (a.free c ob q n hx) hc hx
 slot:=fun c ob q n hc hx=>by
  obtain⟨sl,e1⟩:=a.slot c ob q n hc hx
  obtain⟨sl',e2⟩:=b.slot c _ e1 (a.free c ob q n hx) hc hx
  exact⟨sl',e2⟩
 free:=fun c ob q n hx=>by
  obtain⟨o',e1⟩:=a.there c ob q hx
  exact b.free c o' e1 (a.free c ob q n hx) hx
 there:=fun c ob q hx=>by
  obtain⟨o',e1⟩:=a.there c ob q hx
  exact b.there c o' e1 hx
 tups:=fun c xs q=>b.tups c xs (a.tups c xs q)
 frzs:=fun c ob xs q=>b.frzs c ob xs (a.frzs c ob xs q)
 tbls:=fun c ps q=>by
  obtain⟨m1,e1⟩:=a.tbls c ps q
  obtain⟨m2,e2⟩:=b.tbls c _ e1
  exact⟨m1++m2,by rw[e2,Array.append_assoc]⟩
theorem Un.kept (k:∀b u,h.get? b=some u→h'.get? b=some u):Un fs ex H H h h':=
 ⟨fun b ob q _ _ _=>k b ob q,fun b ob q _ _ _=>⟨ob.slots,k b ob q⟩,fun _ _ _ n _=>n,fun b ob q _=>⟨ob,k b ob q⟩,fun _ _ q=>q,fun _ _ _ q=>q,fun _ ps q=>⟨#[],by rw[q]; simp⟩⟩
theorem Un.refl:Un fs ex H H h h:=Un.kept fun _ _ q=>q
theorem Un.laid (k:∀b u,h.get? b=some u→h'.get? b=some u)(hp:h.objs.size≤a)(hn:H a=none):Un fs ex H (upd H a o) h h' where
 keep:=fun b u q _ _ _=>k b u q
 slot:=fun b u q _ _ _=>⟨u.slots,k b u q⟩
 free:=fun b u q n _=>by rw[za2 (Nat.ne_of_lt (Nat.lt_of_lt_of_le (Heap.lt_size q) hp))]; exact n
 there:=fun b u q _=>⟨u,k b u q⟩
 tups:=fun b xs q=>by rw[za2 (zdv q hn)]; exact q
 frzs:=fun b u xs q=>by rw[za2 (zdv q hn)]; exact q
 tbls:=fun b ps q=>⟨#[],by rw[za2 (zdv q hn),q]; simp⟩
theorem Un.write (mu:Mut (H x))(he:e=x∨H e=some (.own x))(k:∀b u,b≠e→h.get? b=some u→h'.get? b=some u)(heo:∃u,h'.get? e=some u):Un fs ex H (upd H x o) h h':=by
 have hx:∀b,H b=none→b≠x:=fun b n z=>by subst z; rw[n] at mu; exact mu
 have hb:∀b,H b=none→b≠e:=fun b n z=>by
  subst z
  rcases he with r | r
  ·exact hx b n r
  ·rw[n] at r; cases r
 have hm:∀b u,H b=some u→¬ Mut (some u)→b≠x:=fun b u q nm z=>by subst z; rw[q] at mu; exact nm mu
 refine⟨fun b u q n _ _=>k b u (hb b n) q,fun b u q n _ _=>⟨u.slots,k b u (hb b n) q⟩,fun b u q n _=>by rw[za2 (hx b n)]; exact n,fun b u q _=>?_,
  fun b xs q=>by rw[za2 (hm b _ q fun z=>z)]; exact q,fun b u xs q=>by rw[za2 (hm b _ q fun z=>z)]; exact q,fun b ps q=>⟨#[],by rw[za2 (hm b _ q fun z=>z),q]; simp⟩⟩
 by_cases hbe:b=e
 ·subst hbe; exact heo
 ·exact⟨u,k b u hbe q⟩
theorem Un.mono (u:Un fs ex H H1 h h1)(hs:∀b∈fs,b∈fs')(hx:∀b∈ex,b∈ex'):Un fs' ex' H H1 h h1:=
 ⟨fun b ob q n hb he=>u.keep b ob q n (fun z=>hb (hs b z)) fun z=>he (hx b z),fun _ _ q n _ he=>u.any q n fun z=>he (hx _ z),fun b ob q n he=>u.free b ob q n fun z=>he (hx b z),fun b ob q he=>u.there b ob q fun z=>he (hx b z),u.tups,u.frzs,u.tbls⟩
end

def trk (h:Heap)(H:Hp):List Addr:=(List.range h.objs.size).filter fun a=>(H a).isSome
def zdp (h:Heap)(H:Hp):Heap:=PySem.W.hideAll h (trk h H)
theorem zrM (h:Heap)(H:Hp):(zdp h H).objs.size=h.objs.size:=PySem.W.hideAll_size _ _
theorem zxT {h:Heap}{H:Hp}{b:Addr}{o:Obj}(e:h.get? b=some o)(n:H b=none):(zdp h H).get? b=some o:=
 PySem.W.hideAll_get _ e fun hm=>by
  have q:(H b).isSome=true:=(List.mem_filter.mp hm).2
  rw[n] at q; simp at q
theorem zr4 {h:Heap}{H:Hp}{b:Addr}{o:Obj}(e:(zdp h H).get? b=some o):h.get? b=some o∧H b=none:=by
 have e':h.get? b=some o:=PySem.W.of_hideAll (trk h H) e
 refine⟨e',?_⟩
 cases q:H b with
 | none=>rfl
 | some x=>
  have hm:b∈trk h H:=List.mem_filter.mpr ⟨List.mem_range.mpr (Heap.lt_size e'),by simp[q]⟩
  have z:(zdp h H).get? b=none:=PySem.W.hideAll_none (trk h H) hm
  rw[z] at e; cases e

def zrJ (g h:Heap)(L:Addr):List (Addr×Obj):=(List.range h.objs.size).filterMap fun a=>if a=L∨(g.get? a).isSome=true then none else (h.get? a).map fun o=>(a,o)
def zbj (g h:Heap)(L d:Addr):List (Addr×Obj):=(zrJ g h L).filter fun p=>decide (p.1≠d)
end L2

namespace L2
open PySem PySem.Spec PyProof.Rows

structure Mod (K:PySem.W.Frag)(mg:Str→Option Value)(base:Heap):Prop where
 kin:K.In base
 glob:base.Ns mainGlobals mg
 blt:∃mb,base.Ns builtinsNs mb∧∀x:Str,x≠"__name__"→mb x=bootBuiltins x
 nolimit:base.NoLimit

structure Cx where
 prog:Program
 w:World
 K:PySem.W.Frag
 mg:Str→Option Value
 base:Heap
 A:Around
 N:List Str
 s₀:Shared
 H₀:Hp
 env:Env
 outer:List Env
 stack:List Env
 ex:List Addr
 fn:Str→Bool
 calm:Bool
 pn:List (Addr×Obj)
 xe:Value→Shared→Prop
def frs (l:List Env):List Addr:=l.filterMap (·.frame)
abbrev Cx.fs (X:Cx):List Addr:=frs X.outer

def Vis (sc:Scope)(x:Str):Prop:=sc.names.lookup x=some .local∨sc.names.lookup x=some .cell∨sc.names.lookup x=some .free
def Loc (sc:Scope)(x:Str):Prop:=sc.names.lookup x=some .local∨sc.names.lookup x=some .cell
def Look (env:Env)(h:Heap)(m:Str→Option Value)(x:Str)(u:Value):Prop:=
 (env.kindOf x=some .local∧m x=some u)∨((env.kindOf x=some .cell∨env.kindOf x=some .free)∧∃c,env.cells.lookup x=some c∧h.IsCell c (some u))

structure Cx.Ok (X:Cx):Prop where
 mod:Mod X.K X.mg X.base
 kind:X.env.scope.kind=.function
 glob:X.env.globals=mainGlobals
 blt:X.env.builtins=builtinsNs
 above:X.s₀.heap.objs.size≤X.env.locals
 inj:∀x y c,X.env.cells.lookup x=some c→X.env.cells.lookup y=some c→x=y
 has:∀x,(X.env.kindOf x=some .cell∨X.env.kindOf x=some .free)→∃c,X.env.cells.lookup x=some c
 cab:∀x c,X.fn x=true→X.env.cells.lookup x=some c→X.s₀.heap.objs.size≤c
 hd:X.calm=true→X.A.handled=none
 frames:X.A.frames=some X.stack
 stk:X.stack=X.outer∨(X.stack=X.env::X.outer∧X.env.frame=some X.env.locals)
 exf:∀b∈X.ex,b≠X.env.locals∧∀x c,X.env.cells.lookup x=some c→c≠b
 bs:∀b o,X.base.get? b=some o→X.s₀.heap.get? b=some o∧X.H₀ b=none
 bsz:X.base.objs.size≤X.s₀.heap.objs.size
 noex:∀b o,X.base.get? b=some o→b ∉ X.ex
 exfs:∀b∈X.ex,b ∉ X.fs
 funs:X.s₀.heap.FunFrames X.base X.outer
 frf:∀b∈X.fs,X.H₀ b=none

structure Inv (X:Cx)(pins:List (Addr×Obj))(σ:List (Option V))(H:Hp)(s:Shared):Prop where
 ok:X.Ok
 os:s.os=X.s₀.os
 bare:AllBare s.gens
 base:Un X.fs X.ex X.H₀ H X.s₀.heap s.heap
 loc:∃m,s.heap.Ns X.env.locals m∧∀(i:Nat) (x:Str) (v:V),X.N[i]?=some x→σ[i]?=some (some v)→Vis X.env.scope x→∃u,zav v u∧Look X.env s.heap m x u
 cell:∀x c,X.env.cells.lookup x=some c→∃v,s.heap.IsCell c v
 free:H X.env.locals=none
 freeC:∀x c,X.env.cells.lookup x=some c→H c=none
 pin:∀p∈X.pn++pins,s.heap.get? p.1=some p.2∧H p.1=none∧p.1≠X.env.locals∧p.1 ∉ X.fs∧∀v,p.2.data≠.cell v
 hok:HOk X.prog X.w H s.heap
 len:σ.length=X.N.length

section
variable {X:Cx}{pins:List (Addr×Obj)}{σ:List (Option V)}{H H':Hp}{s:Shared}{h':Heap}

theorem Cx.Ok.nofr (ok:X.Ok){b:Addr}{o:Obj}(e:X.base.get? b=some o):b ∉ X.fs:=fun hb=>by
 have:=(ok.funs.mem hb).1
 rw[e] at this; cases this
theorem Inv.bs (I:Inv X pins σ H s):∀b o,X.base.get? b=some o→s.heap.get? b=some o∧H b=none:=fun b o e=>
 ⟨I.base.keep b o (I.ok.bs b o e).1 (I.ok.bs b o e).2 (I.ok.nofr e) (I.ok.noex b o e),I.base.free b o (I.ok.bs b o e).1 (I.ok.bs b o e).2 (I.ok.noex b o e)⟩
theorem Inv.bk (I:Inv X pins σ H s):∀b o,X.base.get? b=some o→s.heap.get? b=some o:=fun b o e=>(I.bs b o e).1
theorem Inv.mod (I:Inv X pins σ H s):Mod X.K X.mg X.base:=I.ok.mod
theorem Inv.kIn (I:Inv X pins σ H s):X.K.In s.heap:=I.ok.mod.kin.keeps I.bk
theorem Inv.nolimit (I:Inv X pins σ H s):s.heap.NoLimit:=I.ok.mod.nolimit.keeps I.bk
theorem Inv.fr (I:Inv X pins σ H s):∃m,Fr X.base X.env.locals s.heap m:=
 let ⟨m,hn,_⟩:=I.loc
 ⟨m,hn,I.bk,Nat.le_trans I.ok.bsz I.ok.above⟩
theorem Inv.lt (I:Inv X pins σ H s):X.env.locals < s.heap.objs.size:=let ⟨_,hn,_⟩:=I.loc; hn.lt
theorem Inv.sz (I:Inv X pins σ H s):X.s₀.heap.objs.size≤s.heap.objs.size:=Nat.le_trans I.ok.above (Nat.le_of_lt I.lt)
theorem Inv.nofs (I:Inv X pins σ H s){a:Addr}(h:s.heap.objs.size≤a):a ∉ X.fs:=fun hb=>by
 obtain⟨_,o,ho,_⟩:=I.ok.funs.mem hb
 exact absurd (Nat.lt_of_lt_of_le (Heap.lt_size ho) (Nat.le_trans I.sz h)) (Nat.lt_irrefl _)
theorem Inv.cne (I:Inv X pins σ H s):∀x c,X.env.cells.lookup x=some c→c≠X.env.locals:=fun x c e z=>by
 obtain⟨v,o,ho,hd⟩:=I.cell x c e
 obtain⟨m,⟨o',es,ep,ho',hd',_⟩,_⟩:=I.loc
 rw[z,ho'] at ho; cases ho; rw[hd'] at hd; cases hd
theorem Inv.funs (I:Inv X pins σ H s):s.heap.FunFrames X.base X.outer:=by
 have all:∀(l:List Env),(∀b∈frs l,b∈X.fs)→X.s₀.heap.FunFrames X.base l→s.heap.FunFrames X.base l:=by
  intro l
  induction l with
  | nil=>intro _ _; trivial
  | cons env r ih=>
   intro hs hl
   obtain⟨hk,⟨L,o,hf,hn,ho,hd⟩,hr⟩:=hl
   have hL:L∈X.fs:=hs L (by unfold frs; rw[List.filterMap_cons,hf]; exact List.mem_cons_self)
   obtain⟨sl,e⟩:=I.base.slot L o ho (I.ok.frf L hL) hL fun z=>I.ok.exfs L z hL
   exact⟨hk,⟨L,_,hf,hn,e,hd⟩,ih (fun b hb=>hs b (by unfold frs; rw[List.filterMap_cons,hf]; exact List.mem_cons_of_mem _ hb)) hr⟩
 exact all X.outer (fun _ hb=>hb) I.ok.funs

theorem Inv.stack (I:Inv X pins σ H s):s.heap.FunFrames X.base X.stack:=by
 rcases I.ok.stk with e | ⟨e,hf⟩
 ·rw[e]; exact I.funs
 ·rw[e]
  obtain⟨m,hn,_⟩:=I.loc
  refine .cons (by rw[I.ok.kind]; decide) hf hn ?_ I.funs
  exact Heap.get?_none_of_le (Nat.le_trans I.ok.bsz I.ok.above)
theorem Inv.stkSub (I:Inv X pins σ H s):∀b∈frs X.stack,b∈X.env.locals::X.fs:=fun b hb=>by
 rcases I.ok.stk with e | ⟨e,hf⟩
 ·rw[e] at hb; exact List.mem_cons_of_mem _ hb
 ·rw[e] at hb
  unfold frs at hb
  rw[List.filterMap_cons,hf] at hb
  exact hb
theorem Inv.stkFree (I:Inv X pins σ H s):∀b∈frs X.stack,H b=none:=fun b hb=>by
 rcases List.mem_cons.mp (I.stkSub b hb) with e | hb
 ·rw[e]; exact I.free
 ·obtain⟨_,o,ho,_⟩:=I.ok.funs.mem hb
  exact I.base.free b o ho (I.ok.frf b hb) fun z=>I.ok.exfs b z hb

theorem Inv.step {g':Array GenState}{t':Nat}{d':Drawn}{ch:List Addr}(I:Inv X pins σ H s)
  (hch:∀b∈ch,(b∈X.ex∨X.s₀.heap.objs.size≤b)∧b≠X.env.locals∧(∀x c,X.env.cells.lookup x=some c→c≠b)∧∀p∈X.pn++pins,p.1≠b)
  (keep:∀b o,b≠X.env.locals→b ∉ X.fs→b ∉ ch→s.heap.get? b=some o→H b=none→h'.get? b=some o)
  (slot:∀b o,b≠X.env.locals→b∈X.fs→b ∉ ch→s.heap.get? b=some o→H b=none→∃sl,h'.get? b=some { o with slots:=sl })(free:∀b o,b ∉ ch→s.heap.get? b=some o→H b=none→H' b=none)
  (there:∀b o,b ∉ ch→s.heap.get? b=some o→∃o',h'.get? b=some o')
  (tups:∀b xs,H b=some (.tup xs)→H' b=some (.tup xs))(frzs:∀b o u,H b=some (.frz o u)→H' b=some (.frz o u))(tbls:∀b ps,H b=some (.tbl ps)→∃more,H' b=some (.tbl (ps++more)))
  (ns:∀m,s.heap.Ns X.env.locals m→h'.Ns X.env.locals m)(hok:HOk X.prog X.w H' h')(hg:AllBare g'):
  Inv X pins σ H' { s with heap:=h',gens:=g',drawn:=d',toks:=t' }:=by
 have neL:∀b o,X.s₀.heap.get? b=some o→b≠X.env.locals:=fun b o e=>Nat.ne_of_lt (Nat.lt_of_lt_of_le (Heap.lt_size e) I.ok.above)
 have neC:∀b o,X.s₀.heap.get? b=some o→b ∉ X.ex→b ∉ ch:=fun b o e hx hb=>by
  rcases (hch b hb).1 with z | z
  ·exact hx z
  ·exact absurd (Nat.lt_of_lt_of_le (Heap.lt_size e) z) (Nat.lt_irrefl _)
 have cellK:∀x c,X.env.cells.lookup x=some c→∀v,s.heap.IsCell c v→h'.IsCell c v:=fun x c e v ⟨o,ho,hd⟩=>by
  have nch:c ∉ ch:=fun z=>(hch c z).2.2.1 x c e rfl
  by_cases hc:c∈X.fs
  ·obtain⟨sl,q⟩:=slot c o (I.cne x c e) hc nch ho (I.freeC x c e)
   exact⟨_,q,hd⟩
  ·exact⟨o,keep c o (I.cne x c e) hc nch ho (I.freeC x c e),hd⟩
 refine⟨I.ok,I.os,hg,⟨fun b o e n hb hx=>?_,fun b o e n hb hx=>?_,fun b o e n hx=>?_,fun b o e hx=>?_,fun b xs e=>tups b xs (I.base.tups b xs e),fun b o xs e=>frzs b o xs (I.base.frzs b o xs e),fun b ps e=>?_⟩,?_,fun x c e=>?_,?_,fun x c e=>?_,fun p hp=>?_,hok,I.len⟩
 ·exact keep b o (neL b o e) hb (neC b o e hx) (I.base.keep b o e n hb hx) (I.base.free b o e n hx)
 ·obtain⟨sl,e1⟩:=I.base.slot b o e n hb hx
  obtain⟨sl',e2⟩:=slot b _ (neL b o e) hb (neC b o e hx) e1 (I.base.free b o e n hx)
  exact⟨sl',e2⟩
 ·obtain⟨o',e1⟩:=I.base.there b o e hx
  exact free b o' (neC b o e hx) e1 (I.base.free b o e n hx)
 ·obtain⟨o',e1⟩:=I.base.there b o e hx
  exact there b o' (neC b o e hx) e1
 ·obtain⟨m1,e1⟩:=I.base.tbls b ps e
  obtain⟨m2,e2⟩:=tbls b _ e1
  exact⟨m1++m2,by rw[e2,Array.append_assoc]⟩
 ·obtain⟨m,hn,hl⟩:=I.loc
  refine⟨m,ns m hn,fun i x v e1 e2 e3=>?_⟩
  obtain⟨u,r,l⟩:=hl i x v e1 e2 e3
  refine⟨u,r,?_⟩
  rcases l with l | ⟨k,c,e,z⟩
  ·exact .inl l
  ·exact .inr ⟨k,c,e,cellK x c e _ z⟩
 ·obtain⟨v,z⟩:=I.cell x c e
  exact⟨v,cellK x c e v z⟩
 ·obtain⟨m,⟨o,_,_,ho,_⟩,_⟩:=I.loc
  exact free _ o (fun z=>(hch _ z).2.1 rfl) ho I.free
 ·obtain⟨v,o,ho,hd⟩:=I.cell x c e
  exact free c o (fun z=>(hch c z).2.2.1 x c e rfl) ho (I.freeC x c e)
 ·obtain⟨e,n,ne,nf,d⟩:=I.pin p hp
  have nch:p.1 ∉ ch:=fun z=>(hch p.1 z).2.2.2 p hp rfl
  exact⟨keep p.1 p.2 ne nf nch e n,free p.1 p.2 nch e n,ne,nf,d⟩
theorem Inv.un {t':Nat}(I:Inv X pins σ H s)(u:Un X.fs [] H H' s.heap h')(hok:HOk X.prog X.w H' h'):Inv X pins σ H' { s with heap:=h',toks:=t' }:=by
 obtain⟨m,⟨o,es,ep,ho,r⟩,_⟩:=id I.loc
 obtain⟨sl,hL⟩:=u.any ho I.free (by simp)
 exact I.step (g':=s.gens) (d':=s.drawn) (ch:=[]) (fun _ z=>nomatch z) (fun b o _ hb _ e n=>u.keep b o e n hb (by simp)) (fun b o _ hb _ e n=>u.slot b o e n hb (by simp)) (fun b o _ e n=>u.free b o e n (by simp)) (fun b o _ e=>u.there b o e (by simp)) u.tups u.frzs u.tbls (fun m' hm=>by
  obtain⟨o',es',ep',ho',r'⟩:=hm
  rw[ho] at ho'; cases ho'
  exact⟨_,es',ep',hL,r'⟩) hok I.bare
theorem Inv.call {g':Array GenState}{t':Nat}{d':Drawn}{ch:List Addr}(I:Inv X pins σ H s)(u:Un (frs X.stack) ch H H' s.heap h')(hok:HOk X.prog X.w H' h')(hg:AllBare g')
  (hch:∀b∈ch,(b∈X.ex∨X.s₀.heap.objs.size≤b)∧b≠X.env.locals∧(∀x c,X.env.cells.lookup x=some c→c≠b)∧∀p∈X.pn++pins,p.1≠b):
  Inv X pins σ H' { s with heap:=h',gens:=g',drawn:=d',toks:=t' }:=by
 obtain⟨m,⟨o,es,ep,ho,r⟩,_⟩:=id I.loc
 obtain⟨sl,hL⟩:=u.any ho I.free fun z=>(hch _ z).2.1 rfl
 exact I.step (ch:=ch) hch (fun b o hL hb hc e n=>u.keep b o e n (fun z=>(List.mem_cons.mp (I.stkSub b z)).elim hL hb) hc) (fun b o _ _ hc e n=>u.any e n hc) (fun b o hc e n=>u.free b o e n hc) (fun b o hc e=>u.there b o e hc) u.tups u.frzs u.tbls (fun m' hm=>by
  obtain⟨o',es',ep',ho',r'⟩:=hm
  rw[ho] at ho'; cases ho'
  exact⟨_,es',ep',hL,r'⟩) hok hg
theorem Inv.turned {t':Nat}{it:Addr}(I:Inv X pins σ H s)(k:∀b o,b≠it→s.heap.get? b=some o→h'.get? b=some o)(hn:H it=none)(hL:it≠X.env.locals)
  (h1:it∈X.ex∨X.s₀.heap.objs.size≤it)(h2:∀x c,X.env.cells.lookup x=some c→c≠it)(h3:∀p∈X.pn++pins,p.1≠it):Inv X pins σ H { s with heap:=h',toks:=t' }:=by
 have nit:∀b u,H b=some u→b≠it:=fun b u e z=>by rw[z,hn] at e; cases e
 refine I.step (g':=s.gens) (d':=s.drawn) (ch:=[it]) (fun b hb=>?_) (fun b o _ _ hc e _=>k b o (fun z=>hc (by simp[z])) e) (fun b o _ _ hc e _=>⟨o.slots,k b o (fun z=>hc (by simp[z])) e⟩) (fun _ _ _ _ n=>n)
  (fun b o hc e=>⟨o,k b o (fun z=>hc (by simp[z])) e⟩) (fun _ _ e=>e) (fun _ _ _ e=>e) (fun b ps e=>⟨#[],by rw[e]; simp⟩) (fun m hm=>?_) (fun b u e=>?_) I.bare
 ·have e:b=it:=by simpa using hb
  subst e
  exact⟨h1,hL,h2,h3⟩
 ·obtain⟨o,es,ep,ho,r⟩:=hm
  exact⟨o,es,ep,k _ o (Ne.symm hL) ho,r⟩
 ·refine(I.hok b u e).stay (fun c v hc q=>k c v ?_ q) (fun _ q=>q) fun _ _ q=>q
  rcases hc with z | z
  ·rw[z]; exact nit b u e
  ·exact nit c _ z
theorem Inv.tok (I:Inv X pins σ H s)(t:Nat):Inv X pins σ H { s with toks:=t }:=I.un (h':=s.heap) (t':=t) Un.refl I.hok
theorem Inv.kept {t':Nat}(I:Inv X pins σ H s)(k:∀b u,s.heap.get? b=some u→h'.get? b=some u):Inv X pins σ H { s with heap:=h',toks:=t' }:=I.un (Un.kept k) (I.hok.kept k)
theorem Inv.laid {a:Addr}{o:HO}{t':Nat}(I:Inv X pins σ H s)(k:∀b u,s.heap.get? b=some u→h'.get? b=some u)(hp:s.heap.objs.size≤a)(new:zbx X.prog X.w (upd H a o) h' a o):
  Inv X pins σ (upd H a o) { s with heap:=h',toks:=t' }:=I.un (Un.laid k hp (I.hok.fresh hp)) (I.hok.laid k hp new)
theorem Inv.write {x e:Addr}{o:HO}{t':Nat}(I:Inv X pins σ H s)(mu:Mut (H x))(he:e=x∨H e=some (.own x))(k:∀b u,b≠e→s.heap.get? b=some u→h'.get? b=some u)(heo:∃u,h'.get? e=some u)
  (new:zbx X.prog X.w (upd H x o) h' x o):Inv X pins σ (upd H x o) { s with heap:=h',toks:=t' }:=I.un (Un.write mu he k heo) (I.hok.write mu he k heo new)
theorem Inv.pins_of {pins':List (Addr×Obj)}(I:Inv X pins σ H s)(h:∀p∈pins',s.heap.get? p.1=some p.2∧H p.1=none∧p.1≠X.env.locals∧p.1 ∉ X.fs∧∀v,p.2.data≠.cell v):Inv X pins' σ H s:=
 ⟨I.ok,I.os,I.bare,I.base,I.loc,I.cell,I.free,I.freeC,fun p hp=>(List.mem_append.mp hp).elim (fun z=>I.pin p (List.mem_append_left _ z)) (h p),I.hok,I.len⟩

theorem zqa {N:List Str}(hN:N.Nodup){i j:Nat}{x:Str}(a:N[i]?=some x)(b:N[j]?=some x):i=j:=by
 obtain⟨h1,e1⟩:=List.getElem?_eq_some_iff.mp a
 obtain⟨h2,e2⟩:=List.getElem?_eq_some_iff.mp b
 exact(List.getElem_inj hN).mp (e1.trans e2.symm)

theorem zn6 {M:Model}{A:Around}{E:Value→Shared→Prop}{i:Nat}{x:Str}{v:V}{u:Value}{Q:Unit→Shared→Prop}(I:Inv X pins σ H s)(hN:X.N.Nodup)(hi:X.N[i]?=some x)(hx:Loc X.env.scope x)(r:zav v u)
  (h:∀s',Inv X pins (σ.set i (some v)) H s'→(∃a,Heap.SameBut a s.heap s'.heap∧(a=X.env.locals∨X.env.cells.lookup x=some a))→Q () s')(hf:X.fn x=true∨X.env.scope.names.lookup x=some .local:=by first | exact .inl rfl | exact .inr rfl | assumption):wpAny M A (storeName X.env x u) Q E s:=by
 obtain⟨m,hn,hl⟩:=id I.loc
 have hcls:(X.env.scope.kind == .class || (X.env.scope.kind == .module && X.env.locals != X.env.globals))=false:=by rw[I.ok.kind]; rfl
 have hiσ:i < σ.length:=by rw[I.len]; exact(List.getElem?_eq_some_iff.mp hi).1
 have cne:=I.cne
 have tracked:∀ {a:Addr} {h':Heap},(∃o,s.heap.get? a=some o∧H a=none)→Heap.SameBut a s.heap h'→HOk X.prog X.w H h':=fun {a h'} ha hs b ob e=>by
  obtain⟨_,_,hfree⟩:=ha
  refine(I.hok b ob e).stay (fun c w' hc q=>(hs.2 c ?_).trans q) (fun _ q=>q) fun _ _ q=>q
  rintro rfl
  rcases hc with rfl | hc
  ·rw[hfree] at e; cases e
  ·rw[hfree] at hc; cases hc
 rcases hx with hk | hk
 ·refine wpAny_storeName_local hk hn (fun h' hn' hs=>?_) hcls
  obtain⟨oL,_,_,hoL,_⟩:=id hn
  refine h _ ⟨I.ok,I.os,I.bare,⟨fun b o e n hb hx=>?_,fun b o e n hb hx=>?_,I.base.free,fun b o e hx=>?_,I.base.tups,I.base.frzs,I.base.tbls⟩,⟨_,hn',fun j y v' e1 e2 e3=>?_⟩,fun y c e=>?_,I.free,I.freeC,fun p hp=>?_,tracked ⟨oL,hoL,I.free⟩ hs,by simpa using I.len⟩ ⟨_,hs,.inl rfl⟩
  ·exact(hs.2 b (Nat.ne_of_lt (Nat.lt_of_lt_of_le (Heap.lt_size e) I.ok.above))).trans (I.base.keep b o e n hb hx)
  ·obtain⟨sl,e1⟩:=I.base.slot b o e n hb hx
   exact⟨sl,(hs.2 b (Nat.ne_of_lt (Nat.lt_of_lt_of_le (Heap.lt_size e) I.ok.above))).trans e1⟩
  ·obtain⟨o',e1⟩:=I.base.there b o e hx
   exact⟨o',(hs.2 b (Nat.ne_of_lt (Nat.lt_of_lt_of_le (Heap.lt_size e) I.ok.above))).trans e1⟩
  ·by_cases hj:j=i
   ·subst hj
    rw[hi] at e1; cases e1
    rw[List.getElem?_set_self hiσ] at e2
    cases e2
    exact⟨u,r,.inl ⟨hk,by simp⟩⟩
   ·rw[List.getElem?_set_ne (Ne.symm hj)] at e2
    obtain⟨u',r',q⟩:=hl j y v' e1 e2 e3
    refine⟨u',r',?_⟩
    rcases q with ⟨k,e⟩ | ⟨k,c,e,z⟩
    ·refine .inl ⟨k,?_⟩
     have:y≠x:=fun e=>hj (zqa hN e1 (e ▸ hi))
     simp[this,e]
    ·exact .inr ⟨k,c,e,z.sameBut hs (cne y c e)⟩
  ·obtain⟨w',z⟩:=I.cell y c e
   exact⟨w',z.sameBut hs (cne y c e)⟩
  ·obtain⟨e,n,ne,nf,d⟩:=I.pin p hp
   exact⟨(hs.2 p.1 ne).trans e,n,ne,nf,d⟩
 ·have hfn:X.fn x=true:=by
   rcases hf with z | z
   ·exact z
   ·rw[z] at hk; cases hk
  obtain⟨c,hc⟩:=I.ok.has x (.inl hk)
  obtain⟨w',z⟩:=I.cell x c hc
  refine wpAny_storeName_cell I.ok.kind hk hc z (fun h' hc' hs=>?_)
  obtain⟨oc,hoc,hocd⟩:=id z
  refine h { s with heap:=h' } ⟨I.ok,I.os,I.bare,⟨fun b o e n hb hx=>?_,fun b o e n hb hx=>?_,I.base.free,fun b o e hx=>?_,I.base.tups,I.base.frzs,I.base.tbls⟩,⟨m,hn.sameBut hs (Ne.symm (cne x c hc)),fun j y v' e1 e2 e3=>?_⟩,fun y c' e=>?_,I.free,I.freeC,fun p hp=>?_,tracked ⟨oc,hoc,I.freeC x c hc⟩ hs,by simpa using I.len⟩ ⟨c,hs,.inr hc⟩
  ·exact(hs.2 b (Nat.ne_of_lt (Nat.lt_of_lt_of_le (Heap.lt_size e) (I.ok.cab x c hfn hc)))).trans (I.base.keep b o e n hb hx)
  ·obtain⟨sl,e1⟩:=I.base.slot b o e n hb hx
   exact⟨sl,(hs.2 b (Nat.ne_of_lt (Nat.lt_of_lt_of_le (Heap.lt_size e) (I.ok.cab x c hfn hc)))).trans e1⟩
  ·obtain⟨o',e1⟩:=I.base.there b o e hx
   exact⟨o',(hs.2 b (Nat.ne_of_lt (Nat.lt_of_lt_of_le (Heap.lt_size e) (I.ok.cab x c hfn hc)))).trans e1⟩
  ·by_cases hj:j=i
   ·subst hj
    rw[hi] at e1; cases e1
    rw[List.getElem?_set_self hiσ] at e2
    cases e2
    exact⟨u,r,.inr ⟨.inl hk,c,hc,hc'⟩⟩
   ·rw[List.getElem?_set_ne (Ne.symm hj)] at e2
    obtain⟨u',r',q⟩:=hl j y v' e1 e2 e3
    refine⟨u',r',?_⟩
    rcases q with q | ⟨k,c',e,z'⟩
    ·exact .inl q
    ·refine .inr ⟨k,c',e,z'.sameBut hs ?_⟩
     rintro rfl
     exact hj (zqa hN e1 (I.ok.inj _ _ _ e hc ▸ hi))
  ·by_cases hcc:c'=c
   ·subst hcc; exact⟨_,hc'⟩
   ·obtain⟨w2,z2⟩:=I.cell y c' e
    exact⟨w2,z2.sameBut hs hcc⟩
  ·obtain⟨e,n,ne,nf,d⟩:=I.pin p hp
   refine⟨(hs.2 p.1 ?_).trans e,n,ne,nf,d⟩
   intro q
   rw[q,hoc] at e
   have q':oc=p.2:=Option.some.inj e
   exact d w' (by rw[← q']; exact hocd)
theorem ziJ {M:Model}{A:Around}{E:Value→Shared→Prop}{i:Nat}{x:Str}{v:V}{u:Value}{Q:Unit→Shared→Prop}(I:Inv X pins σ H s)(hN:X.N.Nodup)(hi:X.N[i]?=some x)(hx:Loc X.env.scope x)(r:zav v u)
  (h:∀s',Inv X pins (σ.set i (some v)) H s'→Q () s')(hf:X.fn x=true∨X.env.scope.names.lookup x=some .local:=by first | exact .inl rfl | exact .inr rfl | assumption):wpAny M A (storeName X.env x u) Q E s:=
 zn6 I hN hi hx r (fun s' I' _=>h s' I') hf
theorem Inv.call' {s':Shared}{ch:List Addr}(I:Inv X pins σ H s)(ho:s'.os=s.os)(u:Un (frs X.stack) ch H H' s.heap s'.heap)(hok:HOk X.prog X.w H' s'.heap)(hg:AllBare s'.gens)
  (hch:∀b∈ch,(b∈X.ex∨X.s₀.heap.objs.size≤b)∧b≠X.env.locals∧(∀x c,X.env.cells.lookup x=some c→c≠b)∧∀p∈X.pn++pins,p.1≠b):Inv X pins σ H' s':=by
 obtain⟨h',g',d',t',o'⟩:=s'
 have e:o'=s.os:=ho
 subst e
 exact I.call (g':=g') (t':=t') (d':=d') u hok hg hch
end

abbrev XK:=Value→Option Addr→Hp→Prop
abbrev St:=List (Option V)
abbrev VK:=V→Hp→Prop
abbrev TE:=St→Hp→VK→Prop
abbrev TT:=St→Hp→(Bool→Hp→Prop)→Prop
abbrev TA:=St→Hp→(List V→Hp→Prop)→Prop
structure zdJ where
 nx:St→Hp→Prop
 rt:VK
 bk:St→Hp→Prop:=fun _ _=>False
 ct:St→Hp→Prop:=fun _ _=>False
abbrev TS:=zdJ→St→Hp→Prop

def EP (X:Cx)(pins:List (Addr×Obj))(σ:St)(Q:VK)(u:Value)(s':Shared):Prop:=∃v H',Inv X pins σ H' s'∧zav v u∧Q v H'
def TP (X:Cx)(pins:List (Addr×Obj))(σ:St)(Q:Bool→Hp→Prop)(b:Bool)(s':Shared):Prop:=∃H',Inv X pins σ H' s'∧Q b H'
def AP (X:Cx)(pins:List (Addr×Obj))(σ:St)(Q:List V→Hp→Prop)(us:List Value)(s':Shared):Prop:=∃vs H',Inv X pins σ H' s'∧zat vs us∧Q vs H'
def SP (X:Cx)(pins:List (Addr×Obj))(D:zdJ)(f:Flow)(s':Shared):Prop:=
 match f with
 | .next=>∃σ' H',Inv X pins σ' H' s'∧D.nx σ' H'
 | .brk=>∃σ' H',Inv X pins σ' H' s'∧D.bk σ' H'
 | .cont=>∃σ' H',Inv X pins σ' H' s'∧D.ct σ' H'
 | .ret u=>∃v σ' H',Inv X pins σ' H' s'∧zav v u∧D.rt v H'

def PE (X:Cx)(e:Expr)(t:TE):Prop:=
 ∀(pins:List (Addr×Obj)) (s:Shared) (σ:St) (H:Hp) (Q:VK),Inv X pins σ H s→t σ H Q→wpAny (model X.prog X.w) X.A (eval e X.env) (EP X pins σ Q) X.xe s
def PT (X:Cx)(e:Expr)(t:TT):Prop:=
 ∀(pins:List (Addr×Obj)) (s:Shared) (σ:St) (H:Hp) (Q:Bool→Hp→Prop),Inv X pins σ H s→t σ H Q→wpAny (model X.prog X.w) X.A (isTrue e X.env (eval e X.env)) (TP X pins σ Q) X.xe s
def PW (X:Cx)(e:Expr)(t:TT):Prop:=
 ∀(whole:Sem Value) (pins:List (Addr×Obj)) (s:Shared) (σ:St) (H:Hp) (Q:Bool→Hp→Prop),Inv X pins σ H s→t σ H Q→wpAny (model X.prog X.w) X.A (isTrue e X.env whole) (TP X pins σ Q) X.xe s
theorem PW.pt {X:Cx}{e:Expr}{t:TT}(h:PW X e t):PT X e t:=h _
def PA (X:Cx)(es:List Expr)(t:TA):Prop:=
 ∀(pos:Pos) (pins:List (Addr×Obj)) (s:Shared) (σ:St) (H:Hp) (Q:List V→Hp→Prop),Inv X pins σ H s→t σ H Q→wpAny (model X.prog X.w) X.A (spliced (backTo pos (starEach es X.env))) (AP X pins σ Q) X.xe s
def PS (X:Cx)(st:Stmt)(t:TS):Prop:=
 ∀(pins:List (Addr×Obj)) (s:Shared) (σ:St) (H:Hp) (D:zdJ),Inv X pins σ H s→t D σ H→wpAny (model X.prog X.w) X.A (exec st X.env) (SP X pins D) X.xe s
def PSs (X:Cx)(st:List Stmt)(t:TS):Prop:=
 ∀(pins:List (Addr×Obj)) (s:Shared) (σ:St) (H:Hp) (D:zdJ),Inv X pins σ H s→t D σ H→wpAny (model X.prog X.w) X.A (execs st X.env) (SP X pins D) X.xe s
theorem thn {α:Type}{t:Sem α}{Q Q':α→Shared→Prop}{M:Model}{A:Around}{E:Value→Shared→Prop}{s:Shared}(h:wpAny M A t Q E s)(hQ:∀a s,Q a s→Q' a s):wpAny M A t Q' E s:=wpAny_mono h hQ fun _ _ x=>x
end L2

namespace L2
open PySem PySem.Spec PyProof.Rows
section
variable {X:Cx}

def tVar (i:Nat):TE:=fun σ H Q=>∃v,σ[i]?=some (some v)∧Q v H
def tC (v:V):TE:=fun _ H Q=>Q v H
theorem zpo {i:Nat}{x:Str}{pos:Pos}(hN:X.N[i]?=some x)(hv:Vis X.env.scope x)(hd:(x == ("__debug__":Str))=false:=by decide)(hcd:(x == ("__classdict__":Str))=false:=by decide):PE X (.Name x pos) (tVar i):=by
 intro pins s σ H Q I h
 obtain⟨v,e,h⟩:=h
 obtain⟨m,hn,hl⟩:=I.loc
 obtain⟨u,r,l⟩:=hl i x v hN e hv
 have fin:EP X pins σ Q u s:=⟨v,H,I,r,h⟩
 rcases l with ⟨hk,hm⟩ | ⟨hk,c,hc,hcell⟩
 ·exact wpAny_Name (wpAny_loadName_local I.ok.kind hk hn hm fin) hd
 ·rcases hk with hk | hk
  ·exact wpAny_Name (wpAny_loadName_cell I.ok.kind hk hc hcell fin) hd
  ·exact wpAny_Name (wpAny_loadName_free I.ok.kind hk hc hcell fin hcd) hd
theorem zwV {i j pos}:PE X (.Constant (.int i) j pos) (tC (.int i)):=fun _ _ _ H _ I h=>wpAny_Constant_int ⟨.int i,H,I.tok _,⟨_,rfl⟩,h⟩
theorem pe_bl {b j pos}:PE X (.Constant (.bool b) j pos) (tC (.bl b)):=fun _ _ _ H _ I h=>Constant_bool ⟨.bl b,H,I,rfl,h⟩
theorem zvA {j pos}:PE X (.Constant .none j pos) (tC .non):=fun _ _ _ H _ I h=>Constant_none ⟨.non,H,I,rfl,h⟩
theorem zsF {x j pos}:PE X (.Constant (.str x) j pos) (tC (.str x)):=fun _ _ _ H _ I h=>Calls.Constant_str ⟨.str x,H,I.tok _,⟨_,rfl⟩,h⟩

def Gl (X:Cx)(x:Str):Prop:=X.env.kindOf x=some .globalImplicit
theorem zpT {E:Value→Shared→Prop}{pins:List (Addr×Obj)}{s:Shared}{σ:St}{H:Hp}{x:Str}{u:Value}{pos:Pos}{Q:Value→Shared→Prop}(I:Inv X pins σ H s)(hg:Gl X x)(hm:X.mg x=some u)(h:Q u s)
  (hd:(x == ("__debug__":Str))=false:=by decide):wpAny (model X.prog X.w) X.A (eval (.Name x pos) X.env) Q E s:=
 Calls.Name_function_global I.ok.kind hg (Calls.loadGlobal_global (by rw[I.ok.glob]; exact I.mod.glob.keeps I.bk) hm h) hd
theorem zfB {E:Value→Shared→Prop}{pins:List (Addr×Obj)}{s:Shared}{σ:St}{H:Hp}{x:Str}{u:Value}{pos:Pos}{Q:Value→Shared→Prop}(I:Inv X pins σ H s)(hg:Gl X x)(hm:X.mg x=none)(hv:bootBuiltins x=some u)(h:Q u s)
  (hn:x≠"__name__":=by decide)(hd:(x == ("__debug__":Str))=false:=by decide):wpAny (model X.prog X.w) X.A (eval (.Name x pos) X.env) Q E s:=by
 obtain⟨mb,h1,h2⟩:=I.mod.blt
 exact Calls.Name_function_global I.ok.kind hg (Calls.loadGlobal_builtin (by rw[I.ok.glob]; exact I.mod.glob.keeps I.bk) hm (by rw[I.ok.blt]; exact h1.keeps I.bk) ((h2 x hn).trans hv) h) hd
theorem zqm {x:Str}{v:V}{u:Value}{pos:Pos}(hg:Gl X x)(hm:X.mg x=none)(hv:bootBuiltins x=some u)(r:zav v u)(hn:x≠"__name__":=by decide)(hd:(x == ("__debug__":Str))=false:=by decide):PE X (.Name x pos) (tC v):=
 fun _ _ _ H _ I h=>zfB I hg hm hv ⟨v,H,I,r,h⟩ hn hd

variable {a b:Expr}{ta tb:TE}{pos:Pos}
def tB (t:TE):TT:=fun σ H Q=>t σ H fun x H1=>∃c,x=.bl c∧Q c H1
theorem zw8 {e:Expr}{t:TE}(h:PE X e t)(he:∀whole,isTrue e X.env whole=(do let v ← whole; standAt e.pos; holding [v] (truthy v)):=by intro _; rfl):PT X e (tB t):=by
 intro pins s σ H Q I hw
 refine isTrue_plain (thn (h pins s σ H _ I hw) fun v s1 ⟨x,H1,I1,r1,q1⟩=>?_) (he _)
 obtain⟨d,rfl,q⟩:=q1
 cases r1
 exact wpAny_truthy_bool ⟨H1,I1,q⟩

variable {tA tB':TT}{zbj:List Expr}
def tAnd (t u:TT):TT:=fun σ H Q=>t σ H fun c H1=>if c=true then u σ H1 Q else Q false H1
def tOr (t u:TT):TT:=fun σ H Q=>t σ H fun c H1=>if c=true then Q true H1 else u σ H1 Q
def tNot (t:TT):TT:=fun σ H Q=>t σ H fun c H1=>Q (!c) H1
theorem zxD (ha:PT X a tA):PW X (.BoolOp .And [a] pos) tA:=by
 intro wh pins s σ H Q I h
 refine isTrue_and (thn (ha pins s σ H Q I h) fun c s1 e=>?_)
 cases c with
 | true=>exact isTrue_and_nil e
 | false=>exact e
theorem ztU (ha:PT X a tA):PW X (.BoolOp .Or [a] pos) tA:=by
 intro wh pins s σ H Q I h
 refine isTrue_or (thn (ha pins s σ H Q I h) fun c s1 e=>?_)
 cases c with
 | false=>exact isTrue_or_nil e
 | true=>exact e
theorem zvo (ha:PT X a tA)(hb:PW X (.BoolOp .And (b::zbj) pos) tB'):PW X (.BoolOp .And (a::b::zbj) pos) (tAnd tA tB'):=by
 intro wh pins s σ H Q I h
 refine isTrue_and (thn (ha pins s σ H _ I h) fun c s1 ⟨H1,I1,q1⟩=>?_)
 cases c with
 | true=>exact hb wh pins s1 σ H1 Q I1 q1
 | false=>exact⟨H1,I1,q1⟩
theorem pw_or (ha:PT X a tA)(hb:PW X (.BoolOp .Or (b::zbj) pos) tB'):PW X (.BoolOp .Or (a::b::zbj) pos) (tOr tA tB'):=by
 intro wh pins s σ H Q I h
 refine isTrue_or (thn (ha pins s σ H _ I h) fun c s1 ⟨H1,I1,q1⟩=>?_)
 cases c with
 | true=>exact⟨H1,I1,q1⟩
 | false=>exact hb wh pins s1 σ H1 Q I1 q1
theorem zxQ (ha:PT X a tA):PT X (.UnaryOp .Not a pos) (tNot tA):=by
 intro pins s σ H Q I h
 exact isTrue_not (ha pins s σ H (fun c H1=>Q (!c) H1) I h)
def tAndV (ta tb:TE):TE:=fun σ H Q=>ta σ H fun x H1=>∃c,x=.bl c∧if c=true then tb σ H1 Q else Q (.bl false) H1
def tNotV (ta:TE):TE:=fun σ H Q=>ta σ H fun x H1=>∃c,x=.bl c∧Q (.bl (!c)) H1
theorem zrd {op}{t:TE}(h:PE X a t):PE X (.BoolOp op [a] pos) t:=fun pins s σ H Q I hw=>BoolOp_one (h pins s σ H Q I hw)
theorem zx4 (ha:PE X a ta)(hb:PE X (.BoolOp .And (b::zbj) pos) tb):PE X (.BoolOp .And (a::b::zbj) pos) (tAndV ta tb):=by
 intro pins s σ H Q I h
 refine BoolOp_and (thn (ha pins s σ H _ I h) fun v s1 ⟨x,H1,I1,r1,q1⟩=>?_)
 obtain⟨c,rfl,q1⟩:=q1
 cases r1
 refine wpAny_truthy_bool ?_
 cases c with
 | true=>exact hb pins s1 σ H1 Q I1 q1
 | false=>exact⟨.bl false,H1,I1,rfl,q1⟩
theorem zxE (ha:PE X a ta):PE X (.UnaryOp .Not a pos) (tNotV ta):=by
 intro pins s σ H Q I h
 refine UnaryOp_ (thn (ha pins s σ H _ I h) fun v s1 ⟨x,H1,I1,r1,q1⟩=>?_)
 obtain⟨c,rfl,q1⟩:=q1
 cases r1
 exact not_of (wpAny_truthy_bool ⟨.bl (!c),H1,I1,rfl,q1⟩)
def tIf (t:TT)(ta tb:TE):TE:=fun σ H Q=>t σ H fun c H1=>if c=true then ta σ H1 Q else tb σ H1 Q
theorem zyd {c:Expr}(hc:PT X c tA)(ha:PE X a ta)(hb:PE X b tb):PE X (.IfExp c a b pos) (tIf tA ta tb):=by
 intro pins s σ H Q I h
 refine wpAny_IfExp (thn (hc pins s σ H _ I h) fun d s1 ⟨H1,I1,q1⟩=>?_)
 cases d with
 | true=>exact ha pins s1 σ H1 Q I1 q1
 | false=>exact hb pins s1 σ H1 Q I1 q1
end
end L2

namespace L2
open PySem PySem.Spec PyProof.Rows

def SqL (K:PySem.W.Frag)(H:Hp)(a:Addr)(xs:List V):Prop:=
 Rd H a (.lst xs)∨
  ∃(o:Obj) (its:Array Value) (n:Nat),K.lookup a=some o∧o.cls=.type "list"∧o.dict=none∧o.data=.seq its n∧its.size≤sizeLine∧zat xs its.toList
def SqT (K:PySem.W.Frag)(H:Hp)(a:Addr)(xs:List V):Prop:=
 Rd H a (.tup xs)∨
  ∃(o:Obj) (its:Array Value) (n:Nat),K.lookup a=some o∧o.cls=.type "tuple"∧o.data=.seq its n∧its.size≤sizeLine∧zat xs its.toList
def absV:Value→Option V
 | .none=>some .non
 | .bool b=>some (.bl b)
 | .int i _=>some (.int i)
 | .str x _=>some (.str x)
 | .bytes b _=>some (.byt b)
 | .float b _=>some (.flt b)
 | .ref a=>some (.ref a)
 | .type n=>some (.ty n)
 | _=>none
theorem zav.abs {x:V}{u:Value}(r:zav x u):absV u=some x:=by
 cases x with
 | non=>cases r; rfl
 | bl _=>cases r; rfl
 | int _=>obtain⟨t,rfl⟩:=r; rfl
 | str _=>obtain⟨t,rfl⟩:=r; rfl
 | byt _=>obtain⟨t,rfl⟩:=r; rfl
 | flt _=>obtain⟨t,rfl⟩:=r; rfl
 | ref _=>cases r; rfl
 | ty _=>cases r; rfl
theorem zav.inj {x y:V}{u:Value}(r:zav x u)(q:zav y u):x=y:=Option.some.inj (r.abs.symm.trans q.abs)
theorem zat.inj:∀ {xs ys:List V} {us:List Value},zat xs us→zat ys us→xs=ys
 | _,_,_,.nil,.nil=>rfl
 | _,_,_,.cons r t,.cons r' t'=>by rw[r.inj r',zat.inj t t']
section
variable {X:Cx}{pins:List (Addr×Obj)}{σ:St}{H:Hp}{s:Shared}{a:Addr}{xs ys:List V}
theorem SqL.of {K:PySem.W.Frag}(h:H a=some (.lst xs)):SqL K H a xs:=.inl (.inl h)
theorem SqT.of {K:PySem.W.Frag}(h:H a=some (.tup xs)):SqT K H a xs:=.inl (.inl h)
theorem Inv.list (I:Inv X pins σ H s)(h:SqL X.K H a xs):∃its:List Value,zat xs its∧PlainL s.heap a its.toArray∧xs.length≤sizeLine:=by
 rcases h with h | ⟨o,its,n,hk,hc,hd,hs,hz,r⟩
 ·obtain⟨z,its,n,r,e⟩:=h.ok I.hok
  exact⟨its,r,⟨_,n,e,rfl,rfl,rfl⟩,z⟩
 ·refine⟨its.toList,r,⟨o,n,I.kIn a o hk,hc,hd,by simpa using hs⟩,?_⟩
  have e:=r.length
  simp only[Array.length_toList] at e
  omega
theorem Inv.tuple (I:Inv X pins σ H s)(h:SqT X.K H a xs):∃its:List Value,zat xs its∧IsTup s.heap a its.toArray∧xs.length≤sizeLine:=by
 rcases h with h | ⟨o,its,n,hk,hc,hs,hz,r⟩
 ·obtain⟨z,its,r,p⟩:=h.ok I.hok
  exact⟨its,r,p,z⟩
 ·refine⟨its.toList,r,⟨o,I.kIn a o hk,hc,n,by simpa using hs⟩,?_⟩
  have e:=r.length
  simp only[Array.length_toList] at e
  omega
theorem Inv.list_inj (I:Inv X pins σ H s)(h:SqL X.K H a xs)(h':SqL X.K H a ys):xs=ys:=by
 obtain⟨its,r,⟨o,n,e,_,_,d⟩,_⟩:=I.list h
 obtain⟨its',r',⟨o',n',e',_,_,d'⟩,_⟩:=I.list h'
 rw[e] at e'; cases e'
 rw[d] at d'
 injection d' with d1 _
 have:its=its':=by simpa using congrArg Array.toList d1
 subst this
 exact r.inj r'
end

abbrev Cx.wish (X:Cx)(E:Value→Shared→Prop):Cx:={ X with xe:=E }
abbrev Cx.nox (X:Cx):Cx:=X.wish fun _ _=>False
theorem Cx.Ok.wish {X:Cx}(ok:X.Ok)(E:Value→Shared→Prop):(X.wish E).Ok:=
 ⟨ok.mod,ok.kind,ok.glob,ok.blt,ok.above,ok.inj,ok.has,ok.cab,ok.hd,ok.frames,ok.stk,ok.exf,ok.bs,ok.bsz,ok.noex,ok.exfs,ok.funs,ok.frf⟩
theorem Cx.Ok.unwish {X:Cx}{E:Value→Shared→Prop}(ok:(X.wish E).Ok):X.Ok:=
 ⟨ok.mod,ok.kind,ok.glob,ok.blt,ok.above,ok.inj,ok.has,ok.cab,ok.hd,ok.frames,ok.stk,ok.exf,ok.bs,ok.bsz,ok.noex,ok.exfs,ok.funs,ok.frf⟩
section
variable {X:Cx}{pins:List (Addr×Obj)}{σ:St}{H:Hp}{s:Shared}{E:Value→Shared→Prop}
theorem Inv.wish (I:Inv X pins σ H s)(E:Value→Shared→Prop):Inv (X.wish E) pins σ H s:=⟨I.ok.wish E,I.os,I.bare,I.base,I.loc,I.cell,I.free,I.freeC,I.pin,I.hok,I.len⟩
theorem Inv.unwish (I:Inv (X.wish E) pins σ H s):Inv X pins σ H s:=⟨I.ok.unwish,I.os,I.bare,I.base,I.loc,I.cell,I.free,I.freeC,I.pin,I.hok,I.len⟩
theorem SP.unwish {D:zdJ}{f:Flow}{s':Shared}(h:SP (X.wish E) pins D f s'):SP X pins D f s':=by
 cases f with
 | next=>obtain⟨σ',H',I,q⟩:=h; exact⟨σ',H',I.unwish,q⟩
 | brk=>obtain⟨σ',H',I,q⟩:=h; exact⟨σ',H',I.unwish,q⟩
 | cont=>obtain⟨σ',H',I,q⟩:=h; exact⟨σ',H',I.unwish,q⟩
 | ret u=>obtain⟨v,σ',H',I,r,q⟩:=h; exact⟨v,σ',H',I.unwish,r,q⟩
theorem PE.nox {e:Expr}{t:TE}(h:PE X.nox e t):PE X e t:=fun pins s σ H Q I hw=>
 wpAny_mono (h pins s σ H Q (I.wish _) hw) (fun _ _ ⟨v,H',I',r,q⟩=>⟨v,H',I'.unwish,r,q⟩) fun _ _ z=>False.elim z
theorem PT.nox {e:Expr}{t:TT}(h:PT X.nox e t):PT X e t:=fun pins s σ H Q I hw=>
 wpAny_mono (h pins s σ H Q (I.wish _) hw) (fun _ _ ⟨H',I',q⟩=>⟨H',I'.unwish,q⟩) fun _ _ z=>False.elim z
theorem PSs.nox {st:List Stmt}{t:TS}(h:PSs X.nox st t):PSs X st t:=fun pins s σ H D I hw=>
 wpAny_mono (h pins s σ H D (I.wish _) hw) (fun _ _ q=>q.unwish) fun _ _ z=>False.elim z
end

section
variable {X:Cx}{st:Stmt}{zbj:List Stmt}{t u:TS}{e:Expr}{te:TE}{pos:Pos}
def tNext:TS:=fun D σ H=>D.nx σ H
def tSeq (t u:TS):TS:=fun D σ H=>t { D with nx:=u D } σ H
theorem zsv:PSs X [] tNext:=fun _ _ σ H _ I h=>wpAny_execs_nil ⟨σ,H,I,h⟩
theorem zuy (h1:PS X st t)(h2:PSs X zbj u):PSs X (st::zbj) (tSeq t u):=by
 intro pins s σ H D I h
 refine wpAny_execs_cons (thn (h1 pins s σ H { D with nx:=u D } I h) fun f s1 q=>?_)
 cases f with
 | next=>
  obtain⟨σ',H',I',q⟩:=q
  exact h2 pins s1 σ' H' D I' q
 | ret v=>exact q
 | brk=>exact q
 | cont=>exact q
theorem zwU (h1:PS X st t):PSs X [st] t:=by
 intro pins s σ H D I h
 refine wpAny_execs_cons (thn (h1 pins s σ H D I h) fun f s1 q=>?_)
 cases f with
 | next=>exact wpAny_execs_nil q
 | ret v=>exact q
 | brk=>exact q
 | cont=>exact q
theorem Inv.quiet {pins:List (Addr×Obj)}{σ:St}{H:Hp}{s:Shared}(I:Inv X pins σ H s):interactive X.env=false:=by simp[interactive,I.ok.kind]
def tDrop (te:TE):TS:=fun D σ H=>te σ H fun _ H1=>D.nx σ H1
theorem zrf (he:PE X e te)(hs:swapsWith e none pos.line X.env=pure false:=by rfl):PS X (.Expr e pos) (tDrop te):=by
 intro pins s σ H D I h
 exact wpAny_Expr_any (thn (he pins s σ H _ I h) fun v s1 ⟨x,H1,I1,r1,q1⟩=>⟨σ,H1,I1,q1⟩) I.quiet hs
def tRet (te:TE):TS:=fun D σ H=>te σ H D.rt
theorem zwp (he:PE X e te):PS X (.Return (some e) pos) (tRet te):=by
 intro pins s σ H D I h
 exact wpAny_Return_some (thn (he pins s σ H _ I h) fun v s1 ⟨x,H1,I1,r1,q1⟩=>⟨x,σ,H1,I1,r1,q1⟩)
def tIfS (c:TT)(t u:TS):TS:=fun D σ H=>c σ H fun b H1=>if b=true then t D σ H1 else u D σ H1
theorem ps_if {c:Expr}{a b:List Stmt}{tc:TT}(hc:PT X c tc)(ha:PSs X a t)(hb:PSs X b u):PS X (.If c a b pos) (tIfS tc t u):=by
 intro pins s σ H D I h
 refine wpAny_If (thn (hc pins s σ H _ I h) fun d s1 ⟨H1,I1,q1⟩=>?_)
 cases d with
 | true=>exact ha pins s1 σ H1 D I1 q1
 | false=>exact hb pins s1 σ H1 D I1 q1
def zvm:TS:=fun _ _ _=>False
theorem zud:PS X st zvm:=fun _ _ _ _ _ _ h=>h.elim
end

abbrev TG:=V→St→Hp→(St→Hp→Prop)→Prop
abbrev TGs:=List V→St→Hp→(St→Hp→Prop)→Prop
def PG (X:Cx)(target:Expr)(t:TG):Prop:=
 ∀(pins:List (Addr×Obj)) (s:Shared) (σ:St) (H:Hp) (v:V) (u:Value) (Q:St→Hp→Prop),Inv X pins σ H s→zav v u→t v σ H Q→
  wpAny (model X.prog X.w) X.A (assign target X.env u) (fun _ s'=>∃σ' H',Inv X pins σ' H' s'∧Q σ' H') X.xe s
def PGs (X:Cx)(ts:List Expr)(t:TGs):Prop:=
 ∀(pins:List (Addr×Obj)) (s:Shared) (σ:St) (H:Hp) (vs:List V) (us:List Value) (Q:St→Hp→Prop),Inv X pins σ H s→zat vs us→t vs σ H Q→
  wpAny (model X.prog X.w) X.A (assignInOrder ((assignEach ts X.env).map (·.2)) us) (fun _ s'=>∃σ' H',Inv X pins σ' H' s'∧Q σ' H') X.xe s
section
variable {X:Cx}{pos:Pos}
def zpK (i:Nat):TG:=fun v σ H Q=>Q (σ.set i (some v)) H
theorem zl0 {i:Nat}{x:Str}(hN:X.N.Nodup)(hi:X.N[i]?=some x)(hx:Loc X.env.scope x)(hf:X.fn x=true∨X.env.scope.names.lookup x=some .local:=by first | exact .inl rfl | exact .inr rfl | assumption):PG X (.Name x pos) (zpK i):=by
 intro pins s σ H v u Q I r h
 exact wpAny_assign_Name (ziJ I hN hi hx r (fun s' I'=>⟨_,H,I',h⟩) hf)
def gNil:TGs:=fun vs σ H Q=>vs=[]∧Q σ H
def gCons (t:TG)(u:TGs):TGs:=fun vs σ H Q=>∃v r,vs=v::r∧t v σ H fun σ' H'=>u r σ' H' Q
theorem zwX:PGs X [] gNil:=by
 intro pins s σ H vs us Q I r h
 obtain⟨e,h⟩:=h
 subst e
 cases r
 exact assignInOrder_nil ⟨σ,H,I,h⟩
theorem zsu {e:Expr}{es:List Expr}{t:TG}{u:TGs}(h1:PG X e t)(h2:PGs X es u)
  (hs:(assignEach (e::es) X.env).map (·.2)=assign e X.env::(assignEach es X.env).map (·.2):=by rfl):PGs X (e::es) (gCons t u):=by
 intro pins s σ H vs us Q I r h
 obtain⟨v,vr,e1,h⟩:=h
 subst e1
 cases r with
 | cons r rr=>
  rw[hs]
  refine assignInOrder_cons (thn (h1 pins s σ H _ _ _ I r h) fun _ s1 ⟨σ1,H1,I1,q1⟩=>?_)
  exact h2 pins s1 σ1 H1 _ _ Q I1 rr q1
def zfg (K:PySem.W.Frag)(n:Nat)(t:TGs):TG:=fun v σ H Q=>∃a xs,v=.ref a∧SqT K H a xs∧xs.length=n∧t xs σ H Q
theorem zl8 {es:List Expr}{k:Nat}{t:TGs}{n:Nat}(hc:X.calm=true)(h:PGs X es t)
  (hn:(assignEach es X.env).length=n:=by rfl)(hst:(assignEach es X.env).findIdx? (·.1)=none:=by rfl):PG X (.Tuple es k pos) (zfg X.K n t):=by
 intro pins s σ H v u Q I r hw
 obtain⟨a,xs,e1,hq,hl,hw⟩:=hw
 subst e1
 cases r
 obtain⟨its,rv,ht,hz⟩:=I.tuple hq
 refine assign_Tuple_tuple (I.ok.hd hc) ht (by simp[hn,← hl,rv.length]) hst fun h' hx=>?_
 have I1:Inv X pins σ H { s with heap:=h' }:=I.kept (t':=s.toks) fun b o e=>hx b o (Nat.ne_of_lt (Heap.lt_size e)) e
 exact h pins _ σ H xs _ Q I1 (by simpa using rv) hw
def tAsg (te:TE)(g:TG):TS:=fun D σ H=>te σ H fun x H1=>g x σ H1 D.nx
theorem zte {i:Nat}{x:Str}{e:Expr}{te:TE}{pos':Pos}(hN:X.N.Nodup)(hi:X.N[i]?=some x)(hx:Loc X.env.scope x)(he:PE X e te)(hs:swapsWith e (some (.Name x pos')) pos.line X.env=pure false:=by rfl)(hf:X.fn x=true∨X.env.scope.names.lookup x=some .local:=by first | exact .inl rfl | exact .inr rfl | assumption):
  PS X (.Assign [.Name x pos'] e pos) (tAsg te (zpK i)):=by
 intro pins s σ H D I h
 refine wpAny_Assign_Name (thn (he pins s σ H _ I h) fun v s1 ⟨y,H1,I1,r1,q1⟩=>?_) hs
 exact ziJ I1 hN hi hx r1 (fun s2 I2=>⟨_,H1,I2,q1⟩) hf
def tPar (i j:Nat)(ta:TA):TS:=fun D σ H=>ta σ H fun vs H1=>∃v w,vs=[v,w]∧D.nx ((σ.set i (some v)).set j (some w)) H1
theorem zxg {i j:Nat}{x y:Str}{a b:Expr}{ta:TA}{px py pt:Pos}{kt k2 pt2}(hc:X.calm=true)(hN:X.N.Nodup)(hi:X.N[i]?=some x)(hj:X.N[j]?=some y)(hij:i≠j)
  (hx:X.env.scope.names.lookup x=some .local)(hy:X.env.scope.names.lookup y=some .local)(ha:PA X [a,b] ta)
  (hw:swappedStores [.Tuple [.Name x px,.Name y py] kt pt] (.Tuple [a,b] k2 pt2) X.env=pure (some [x,y]))
  (hs:swapsWithSole [.Tuple [.Name x px,.Name y py] kt pt] (.Tuple [a,b] k2 pt2) pos.line X.env=pure false:=by rfl):
  PS X (.Assign [.Tuple [.Name x px,.Name y py] kt pt] (.Tuple [a,b] k2 pt2) pos) (tPar i j ta):=by
 intro pins s σ H D I h
 rw[exec_Assign_arm]
 refine wpAny_bind (wpAny_standAt ?_)
 rw[hs]
 refine wpAny_bind (wpAny_pure ?_)
 rw[if_neg (by decide)]
 refine wpAny_bind (Tuple_ (thn (ha _ pins s σ H _ I h) fun us s1 ⟨vs,H1,I1,r1,q1⟩=>?_))
 obtain⟨v,w,e1,q1⟩:=q1
 subst e1
 obtain⟨u1,u2,rfl,rv,rw'⟩:∃u1 u2,us=[u1,u2]∧zav v u1∧zav w u2:=by
  cases r1 with
  | cons p q=>
   cases q with
   | cons p' q'=>
    cases q'
    exact⟨_,_,rfl,p,p'⟩
 refine wpAny_newObj_type ?_ (by show 2≤sizeLine; decide)
 have I2:Inv X pins σ H1 { s1 with heap:=s1.heap.push { cls:=.type "tuple",data:=.seq [u1,u2].toArray } }:=I1.kept (t':=s1.toks) fun b o e=>Heap.get?_push_of_some _ e
 rw[hw]
 refine wpAny_bind (wpAny_pure ?_)
 show wpAny (model X.prog X.w) X.A (do rule "assign.swapped-stores"; let items ← unpackItems (.ref s1.heap.objs.size) 2 none; assignInOrder [fun v=>bindName X.env y v,fun v=>bindName X.env x v] items.reverse; pure Flow.next) _ _ _
 refine wpAny_bind (wpAny_rule (wpAny_bind (unpackItems_tuple (items:=#[u1,u2]) (I.ok.hd hc) (IsTup.new s1.heap _) fun h' hx'=>?_)))
 have I3:=I2.kept (h':=h') (t':=s1.toks) fun b o e=>hx' b o (Nat.ne_of_lt (Heap.lt_size e)) e
 show wpAny _ _ (assignInOrder [fun v=>bindName X.env y v,fun v=>bindName X.env x v] [u2,u1] >>= fun _=>pure Flow.next) _ _ _
 refine wpAny_bind (assignInOrder_cons (wpAny_bindName (ziJ I3 hN hj (.inl hy) rw' (fun s2 I4=>?_) (.inr hy))))
 refine assignInOrder_cons (wpAny_bindName (ziJ I4 hN hi (.inl hx) rv (fun s3 I5=>assignInOrder_nil (wpAny_pure ?_)) (.inr hx)))
 rw[List.set_comm _ _ (Ne.symm hij)] at I5
 exact⟨_,H1,I5,q1⟩
end

section
variable {X:Cx}{pos:Pos}
def zvT (c:TT)(tb:TS):TS:=fun D σ H=>∃W:Nat→St→Hp→Prop,(∃m,W m σ H)∧∀m σ H,W m σ H→
 c σ H fun b H1=>if b=true then ∃N:St→Hp→Prop,(∀σ' H',N σ' H'→∃m',m' < m∧W m' σ' H')∧tb { D with nx:=N,ct:=N,bk:=D.nx } σ H1 else D.nx σ H1
theorem zwn {c:Expr}{body:List Stmt}{tc:TT}{tb:TS}(hp:PassesOwn (model X.prog X.w) X.A X.env X.xe)(hc:PT X c tc)(hb:PSs X body tb):PS X (.While c body [] pos) (zvT tc tb):=by
 intro pins s σ H D I h
 obtain⟨W,⟨m0,w0⟩,turn⟩:=h
 refine wpAny_While (codeAny_whileLoop (fun n s'=>∃σ' H',Inv X pins σ' H' s'∧W n σ' H') ?_ m0 ⟨σ,H,I,w0⟩)
 rintro n s1 ⟨σ1,H1,I1,w1⟩
 refine wpAny_passesOwn hp (thn (hc pins s1 σ1 H1 _ I1 (turn n σ1 H1 w1)) fun b s2 ⟨H2,I2,q2⟩=>?_)
 cases b with
 | true=>
  obtain⟨N,hN,q2⟩:=q2
  rw[if_pos rfl]
  refine wpAny_passesOwn hp (thn (hb pins s2 σ1 H2 _ I2 q2) fun f s3 q3=>?_)
  cases f with
  | next=>
   obtain⟨σ3,H3,I3,n3⟩:=q3
   obtain⟨m',hm,w3⟩:=hN σ3 H3 n3
   exact⟨m',hm,σ3,H3,I3,w3⟩
  | cont=>
   obtain⟨σ3,H3,I3,n3⟩:=q3
   obtain⟨m',hm,w3⟩:=hN σ3 H3 n3
   exact⟨m',hm,σ3,H3,I3,w3⟩
  | brk=>exact q3
  | ret v=>exact q3
 | false=>
  rw[if_neg Bool.false_ne_true]
  exact wpAny_execs_nil ⟨σ1,H2,I2,q2⟩
end

structure It where
 go:Nat→Hp→Prop
 yld:Nat→Hp→V→Hp→Prop
 stop:Nat→Hp→Prop
def zbG (X:Cx)(pins:List (Addr×Obj))(H:Hp)(b:Addr):Prop:=
 H b=none∧b≠X.env.locals∧b ∉ X.fs∧(b∈X.ex∨X.s₀.heap.objs.size≤b)∧(∀x c,X.env.cells.lookup x=some c→c≠b)∧∀p∈X.pn++pins,p.1≠b
theorem Inv.fpOk {X:Cx}{pins:List (Addr×Obj)}{σ:St}{H H':Hp}{s:Shared}{b:Addr}(I:Inv X pins σ H s)(hb:s.heap.objs.size≤b)(hn:H' b=none):zbG X pins H' b:=by
 refine⟨hn,Nat.ne_of_gt (Nat.lt_of_lt_of_le I.lt hb),I.nofs hb,.inr (Nat.le_trans I.sz hb),fun x c e z=>?_,fun p hp z=>?_⟩
 ·obtain⟨v,q⟩:=I.cell x c e
  exact absurd (Nat.lt_of_lt_of_le q.lt (by rw[z]; exact hb)) (Nat.lt_irrefl _)
 ·exact absurd (Nat.lt_of_lt_of_le (Heap.lt_size (I.pin p hp).1) (by rw[z]; exact hb)) (Nat.lt_irrefl _)
structure zhW (P:Program)(w:World)(K:PySem.W.Frag)(tg:Expr)(J:It)(fp:List Addr)(it:Addr)(tn:Nat→Heap→Prop):Prop where
 mem:it∈fp
 obj:∀i h,tn i h→∀b∈fp,∃o,h.get? b=some o∧∀v,o.data≠.cell v
 keep:∀i h h',tn i h→(∀b∈fp,∀o,h.get? b=some o→h'.get? b=some o)→tn i h'
 item:∀(X:Cx),X.prog=P→X.w=w→X.K=K→X.calm=true→∀(i:Nat) (pins:List (Addr×Obj)) (s:Shared) (σ:St) (H:Hp) (E:Value→Shared→Prop),Inv X pins σ H s→(∀b∈fp,zbG X pins H b)→tn i s.heap→J.go i H→
  wpAny (model P w) X.A (pyNext (.ref it)) (fun r s1=>∃u,r=some u∧
   wpAny (model P w) X.A (letOwnedTupleGo tg (.ref it) u) (fun _ s2=>∃x H',Inv X pins σ H' s2∧zav x u∧J.yld i H x H'∧tn (i + 1) s2.heap∧∀b∈fp,H' b=none) E s1) E s
 done:∀(X:Cx),X.prog=P→X.w=w→X.K=K→X.calm=true→∀(i:Nat) (pins:List (Addr×Obj)) (s:Shared) (σ:St) (H:Hp) (E:Value→Shared→Prop),Inv X pins σ H s→(∀b∈fp,zbG X pins H b)→tn i s.heap→J.stop i H→
  wpAny (model P w) X.A (pyNext (.ref it)) (fun r s1=>r=none∧Inv X pins σ H s1) E s
 self:∀(A:Around) (i:Nat) (s:Shared) (Q:Value→Shared→Prop) (E:Value→Shared→Prop),tn i s.heap→Q (.ref it) s→wpAny (model P w) A (pyIter (.ref it)) Q E s
abbrev TI:=St→Hp→(It→Hp→Prop)→Prop
def PIE (X:Cx)(pins:List (Addr×Obj))(σ:St)(tg:Expr)(R:It→Hp→Prop)(itv:Value)(s2:Shared):Prop:=
 ∃(it:Addr) (fp:List Addr) (tn:Nat→Heap→Prop) (J:It) (H':Hp),itv=.ref it∧Inv X pins σ H' s2∧zhW X.prog X.w X.K tg J fp it tn∧tn 0 s2.heap∧(∀b∈fp,zbG X pins H' b)∧R J H'
def PI (X:Cx)(tg iter:Expr)(wi:TI):Prop:=
 ∀(pins:List (Addr×Obj)) (s:Shared) (σ:St) (H:Hp) (R:It→Hp→Prop),Inv X pins σ H s→wi σ H R→
  wpAny (model X.prog X.w) X.A (eval iter X.env) (fun v s1=>wpAny (model X.prog X.w) X.A (pyIter v) (PIE X pins σ tg R) X.xe s1) X.xe s

theorem zqA {M:Model}{A:Around}{E:Value→Shared→Prop}{s:Shared}{tg:Expr}{it:Addr}{u:Value}{o:Obj}{n:String}{vs:Array Value}{Q:Unit→Shared→Prop}(ho:s.heap.get? it=some o)(hc:o.cls=.type n)(hd:o.data=.fields vs)
    (hn:["enumerate","zip","dict_itemiterator","dict_reverseitemiterator","odict_iterator","itertools.zip_longest","itertools.pairwise"].contains n=false)(hQ:Q () s):wpAny M A (letOwnedTupleGo tg (.ref it) u) Q E s:=by
  unfold letOwnedTupleGo
  cases tg <;> first
    | exact wpAny_pure hQ
    | (cases u <;> first
        | exact wpAny_pure hQ
        | (refine wpAny_bind (wpAny_load ho ?_)
           rw[hc,hd]
           show wpAny M A (if (["enumerate","zip","dict_itemiterator","dict_reverseitemiterator","odict_iterator","itertools.zip_longest","itertools.pairwise"].contains n && vs[0]? == some (rawInt _))=true then _ else _) Q E s
           rw[if_neg (by intro h; rw[hn,Bool.false_and] at h; cases h)]
           exact wpAny_pure hQ))

def Itl (K:PySem.W.Frag)(a:Addr):It:=
 ⟨fun i H=>∃xs x,SqL K H a xs∧xs[i]?=some x,fun i H x H'=>H'=H∧∀xs,SqL K H a xs→xs[i]?=some x,fun i H=>∃xs,SqL K H a xs∧xs.length≤i⟩
def Itr (lo:Int)(n:Nat):It:=⟨fun i _=>i < n,fun i H x H'=>H'=H∧x=.int (lo + i),fun i _=>n≤i⟩
theorem zxv {P:Program}{w:World}{K:PySem.W.Frag}{tg:Expr}(a it:Addr):zhW P w K tg (Itl K a) [it] it (fun i h=>h.IsListIter it a i) where
 mem:=by simp
 obj:=fun i h st b hb=>by
  have e:b=it:=by simpa using hb
  subst e
  obtain⟨o,e,c,d⟩:=st
  exact⟨o,e,fun v z=>by rw[d] at z; cases z⟩
 keep:=fun i h h' st k=>st.at fun o e=>k it (by simp) o e
 item:=by
  intro X hP hw hK hc i pins s σ H E I hf st hg
  subst hP hw hK
  obtain⟨xs,x,hq,hx⟩:=hg
  obtain⟨its,rv,p,hz⟩:=I.list hq
  obtain⟨u,hu,ru⟩:=rv.get hx
  obtain⟨f0,f1,f2,f3,f4,f5⟩:=hf it (by simp)
  refine wpAny_pyNext_list_item st p.isList (x:=u) (by simpa using hu) fun h' st' sb=>?_
  have I1:Inv X pins σ H { s with heap:=h' }:=I.turned (t':=s.toks) (fun b o hb e=>(sb.2 b hb).trans e) f0 f1 f3 f4 f5
  obtain⟨o,e,c,d⟩:=id st'
  exact⟨u,rfl,zqA (s:={ s with heap:=h' }) e c d (by decide) ⟨x,H,I1,ru,⟨rfl,fun ys hy=>by rw[I.list_inj hy hq]; exact hx⟩,st',fun b hb=>(hf b hb).1⟩⟩
 done:=by
  intro X hP hw hK hc i pins s σ H E I hf st hg
  subst hP hw hK
  obtain⟨xs,hq,hx⟩:=hg
  obtain⟨its,rv,p,hz⟩:=I.list hq
  obtain⟨f0,f1,f2,f3,f4,f5⟩:=hf it (by simp)
  have hl:=rv.length
  exact wpAny_pyNext_list_end (I.ok.hd hc) st p.isList (by simp; omega) fun h' eb=>⟨rfl,I.turned (t':=s.toks) (fun b o hb e=>eb b o hb e) f0 f1 f3 f4 f5⟩
 self:=fun _ _ _ _ _ st h=>wpAny_pyIter_listiter st h
theorem zwa {P:Program}{w:World}{K:PySem.W.Frag}{tg:Expr}(it:Addr)(lo:Int)(n:Nat):zhW P w K tg (Itr lo n) [it] it (fun i h=>IsRangeIter h it (lo + (i:Nat) * 1) ((n:Int) - (i:Nat)) 1) where
 mem:=by simp
 obj:=fun i h st b hb=>by
  have e:b=it:=by simpa using hb
  subst e
  exact⟨_,st,fun v z=>by
   have z':Data.fields _=Data.cell v:=z
   cases z'⟩
 keep:=fun i h h' st k=>k it (by simp) _ st
 item:=by
  intro X hP hw hK hc i pins s σ H E I hf st hg
  subst hP hw hK
  obtain⟨f0,f1,f2,f3,f4,f5⟩:=hf it (by simp)
  have W:=Walks.range (prog:=X.prog) (w:=X.w) (I.ok.hd hc) it lo 1 n
  refine W.item i s _ _ hg st fun v h' tk hv st' kk=>?_
  obtain⟨t,rfl⟩:=hv
  have I1:Inv X pins σ H { s with heap:=h',toks:=tk }:=I.turned (fun b o hb e=>kk b o (by simpa using hb) e) f0 f1 f3 f4 f5
  refine⟨_,rfl,zqA (s:={ s with heap:=h',toks:=tk }) (n:="range_iterator") st' rfl rfl (by decide) ⟨.int (lo + i),H,I1,⟨t,?_⟩,⟨rfl,rfl⟩,st',fun b hb=>(hf b hb).1⟩⟩
  rw[Int.mul_one]
 done:=by
  intro X hP hw hK hc i pins s σ H E I hf st hg
  subst hP hw hK
  obtain⟨f0,f1,f2,f3,f4,f5⟩:=hf it (by simp)
  exact wpAny_pyNext_range_end (I.ok.hd hc) st (by have:n≤i:=hg; omega) fun h' eb=>⟨rfl,I.turned (t':=s.toks) (fun b o hb e=>eb b o hb e) f0 f1 f3 f4 f5⟩
 self:=fun _ _ _ _ _ st h=>wpAny_pyIter_rangeiter st h
end L2

namespace L2
open PySem PySem.Spec PyProof.Rows
section
variable {X:Cx}{tg:Expr}
def zq4 (K:PySem.W.Frag)(tl:TE):TI:=fun σ H R=>tl σ H fun x H1=>∃a,x=.ref a∧(∃xs,SqL K H1 a xs)∧R (Itl K a) H1
theorem znv {l:Expr}{tl:TE}(hl:PE X l tl):PI X tg l (zq4 X.K tl):=by
 intro pins s σ H R I h
 refine thn (hl pins s σ H _ I h) fun v s1 ⟨x,H1,I1,r1,q1⟩=>?_
 obtain⟨a,e,⟨xs,hq⟩,q⟩:=q1
 subst e
 cases r1
 obtain⟨its,rv,p,hz⟩:=I1.list hq
 refine wpAny_pyIter_list p.isList ?_
 refine⟨s1.heap.objs.size,[s1.heap.objs.size],_,_,H1,rfl,I1.kept (t':=s1.toks) fun b o e=>Heap.get?_push_of_some _ e,zxv a _,⟨_,Heap.get?_push_size _ rfl,rfl,rfl⟩,fun b hb=>?_,q⟩
 have e:b=s1.heap.objs.size:=by simpa using hb
 subst e
 exact I1.fpOk (Nat.le_refl _) (I1.hok.fresh (Nat.le_refl _))
theorem zwA {pins:List (Addr×Obj)}{σ:St}{H:Hp}{s:Shared}{R:It→Hp→Prop}{E:Value→Shared→Prop}{lo hi:Int}{t u v:Tok}{tk:Nat}(I:Inv X pins σ H s)(h1:-(2 ^ 62)≤lo)(h2:lo < 2 ^ 62)(h3:-(2 ^ 62)≤hi)(h4:hi < 2 ^ 62)
  (q:R (Itr lo (hi - lo).toNat) H):wpAny (model X.prog X.w) X.A (pyIter (.ref s.heap.objs.size)) (PIE X pins σ tg R) E { s with heap:=s.heap.push { cls:=.type "range",data:=.fields #[.int lo t,.int hi u,.int 1 v] },toks:=tk }:=by
 refine wpAny_pyIter_range (IsRange.new ..) (small_one h1 h2 h3 h4) ?_
 have I1:Inv X pins σ H { s with heap:=s.heap.push { cls:=.type "range",data:=.fields #[.int lo t,.int hi u,.int 1 v] },toks:=tk }:=I.kept fun b o e=>Heap.get?_push_of_some _ e
 refine⟨(s.heap.push { cls:=.type "range",data:=.fields #[.int lo t,.int hi u,.int 1 v] }).objs.size,[(s.heap.push { cls:=.type "range",data:=.fields #[.int lo t,.int hi u,.int 1 v] }).objs.size],_,_,H,rfl,
  I1.kept (t':=tk) fun b o e=>Heap.get?_push_of_some _ e,zwa _ lo (hi - lo).toNat,?_,fun b hb=>?_,q⟩
 ·have e1:lo + ((0:Nat):Int) * 1=lo:=by simp
  have e2:(((hi - lo).toNat:Nat):Int) - ((0:Nat):Int)=Builtin.Range.rangeSize lo hi 1:=by rw[rangeSize_one]; split <;> omega
  show IsRangeIter _ _ (lo + ((0:Nat):Int) * 1) ((((hi - lo).toNat:Nat):Int) - ((0:Nat):Int)) 1
  rw[e1,e2]
  exact Heap.get?_push_size _ rfl
 ·have e:b=(s.heap.push { cls:=.type "range",data:=.fields #[.int lo t,.int hi u,.int 1 v] }).objs.size:=by simpa using hb
  subst e
  exact I1.fpOk (Nat.le_refl _) (I1.hok.fresh (Nat.le_refl _))
def zqR (ta:TA):TI:=fun σ H R=>ta σ H fun vs H1=>∃j:Int,vs=[.int j]∧-(2 ^ 62)≤j∧j < 2 ^ 62∧R (Itr 0 j.toNat) H1
theorem znH {a:Expr}{ta:TA}{p pos:Pos}(hg:Gl X "range")(hm:X.mg "range"=none)(ha:PA X [a] ta)(hs:starEach [a] X.env=[(false,eval a X.env)]:=by rfl):PI X tg (.Call (.Name "range" p) [a] [] pos) (zqR ta):=by
 intro pins s σ H R I h
 refine Call_ (zfB I hg hm boot_range (PyProof.Rows.callWith_type1 (thn (ha pos pins s σ H _ I h) fun us s1 ⟨vs,H1,I1,r1,q1⟩=>?_) hs rfl))
 obtain⟨j,e,q1,q2,q⟩:=q1
 subst e
 cases r1 with
 | cons r rr=>
  cases rr
  obtain⟨t,rfl⟩:=r
  exact call_range_1 (zwA I1 (by omega) (by omega) q1 q2 (by simpa using q))
def tFor (wi:TI)(g:TG)(tb:TS):TS:=fun D σ H=>wi σ H fun J H1=>∃W:Nat→Nat→St→Hp→Prop,(∃m,W 0 m σ H1)∧∀i m σ H,W i m σ H→
 (J.stop i H∧D.nx σ H)∨(J.go i H∧∃N:St→Hp→Prop,(∀σ' H',N σ' H'→∃m',m' < m∧W (i + 1) m' σ' H')∧∀x H',J.yld i H x H'→g x σ H' fun σ2 H2=>tb { D with nx:=N,ct:=N,bk:=D.nx } σ2 H2)
def zfJ (fp:List Addr)(h:Heap):List (Addr×Obj):=fp.filterMap fun b=>(h.get? b).map fun o=>(b,o)
theorem zeH {fp:List Addr}{h:Heap}{b:Addr}{o:Obj}(hb:b∈fp)(e:h.get? b=some o):(b,o)∈zfJ fp h:=List.mem_filterMap.mpr ⟨b,hb,by rw[e]; rfl⟩
theorem zwb {fp:List Addr}{h:Heap}{p:Addr×Obj}(hp:p∈zfJ fp h):p.1∈fp∧h.get? p.1=some p.2:=by
 obtain⟨b,hb,e⟩:=List.mem_filterMap.mp hp
 cases q:h.get? b with
 | none=>rw[q] at e; cases e
 | some o=>
  rw[q] at e
  have e':(b,o)=p:=Option.some.inj e
  subst e'
  exact⟨hb,q⟩
theorem Inv.pinned {pins:List (Addr×Obj)}{σ:St}{H:Hp}{s:Shared}{fp:List Addr}(I:Inv X pins σ H s)(hf:∀b∈fp,zbG X pins H b)(ho:∀b∈fp,∃o,s.heap.get? b=some o∧∀v,o.data≠.cell v):Inv X (pins++zfJ fp s.heap) σ H s:=
 I.pins_of fun p hp=>(List.mem_append.mp hp).elim (fun z=>I.pin p (List.mem_append_right _ z)) fun z=>by
  obtain⟨hb,e⟩:=zwb z
  obtain⟨f0,f1,f2,_⟩:=hf p.1 hb
  obtain⟨o,e',d⟩:=ho p.1 hb
  rw[e] at e'; cases e'
  exact⟨e,f0,f1,f2,d⟩
theorem Inv.unpinned {pins pl:List (Addr×Obj)}{σ:St}{H:Hp}{s:Shared}(I:Inv X (pins++pl) σ H s):Inv X pins σ H s:=I.pins_of fun p hp=>I.pin p (List.mem_append_right _ (List.mem_append_left _ hp))
theorem zm6 {iter:Expr}{body:List Stmt}{wi:TI}{g:TG}{tb:TS}{pos:Pos}(hp:PassesOwn (model X.prog X.w) X.A X.env X.xe)(hc:X.calm=true)(hi:PI X tg iter wi)(hg:PG X tg g)(hb:PSs X body tb)
  (hs:∀x,foldedSetIterable iter X.env x=pure x:=by intro _; rfl):PS X (.For tg iter body [] pos) (tFor wi g tb):=by
 intro pins s σ H D I h
 refine wpAny_For (thn (hi pins s σ H _ I h) fun v s1 h1=>thn h1 fun itv s2 h2=>?_) hs
 obtain⟨it,fp,tn,J,H2,e,I2,T,st2,f2,W,⟨m0,w0⟩,turn⟩:=h2
 subst e
 -- what stays true of the iterator's objects through the loop
 have stat:∀ {H':Hp},(∀b∈fp,H' b=none)→∀b∈fp,zbG X pins H' b:=fun hn b hb=>⟨hn b hb,(f2 b hb).2⟩
 refine codeAny_forLoop_any (fun n s'=>∃i σ' H',Inv X pins σ' H' s'∧tn i s'.heap∧(∀b∈fp,H' b=none)∧W i n σ' H') ?_ m0 ⟨0,σ,H2,I2,st2,fun b hb=>(f2 b hb).1,w0⟩
 rintro n s3 ⟨i,σ3,H3,I3,st3,fr3,w3⟩
 rcases turn i n σ3 H3 w3 with ⟨stop,qn⟩ | ⟨go,N,hN,step⟩
 ·refine wpAny_passesOwn hp (thn (T.done X rfl rfl rfl hc i pins s3 σ3 H3 X.xe I3 (stat fr3) st3 stop) fun r s4 ⟨hr,I4⟩=>?_)
  subst hr
  exact wpAny_execs_nil ⟨σ3,H3,I4,qn⟩
 ·refine wpAny_passesOwn hp (thn (T.item X rfl rfl rfl hc i pins s3 σ3 H3 X.xe I3 (stat fr3) st3 go) fun r s4 ⟨u,hr,h4⟩=>?_)
  subst hr
  refine wpAny_passesOwn hp (thn h4 fun _ s5 ⟨x,H5,I5,r5,y5,st5,fr5⟩=>?_)
  have I5':=I5.pinned (stat fr5) (T.obj _ _ st5)
  refine wpAny_passesOwn hp (thn (hg _ s5 σ3 H5 x u _ I5' r5 (step x H5 y5)) fun _ s6 ⟨σ6,H6,I6,q6⟩=>?_)
  refine wpAny_passesOwn hp (thn (hb _ s6 σ6 H6 _ I6 q6) fun f s7 q7=>?_)
  have again:∀ {σ7:St} {H7:Hp},Inv X (pins++zfJ fp s5.heap) σ7 H7 s7→N σ7 H7→∃m,m < n∧∃i σ' H',Inv X pins σ' H' s7∧tn i s7.heap∧(∀b∈fp,H' b=none)∧W i m σ' H':=fun {σ7 H7} I7 n7=>by
   obtain⟨m',hm,w7⟩:=hN σ7 H7 n7
   refine⟨m',hm,i + 1,σ7,H7,I7.unpinned,T.keep _ _ _ st5 fun b hb o e=>(I7.pin (b,o) (List.mem_append_right _ (List.mem_append_right _ (zeH hb e)))).1,fun b hb=>?_,w7⟩
   obtain⟨o,e,d⟩:=T.obj _ _ st5 b hb
   exact(I7.pin (b,o) (List.mem_append_right _ (List.mem_append_right _ (zeH hb e)))).2.1
  cases f with
  | next=>obtain⟨σ7,H7,I7,n7⟩:=q7; exact again I7 n7
  | cont=>obtain⟨σ7,H7,I7,n7⟩:=q7; exact again I7 n7
  | brk=>obtain⟨σ7,H7,I7,q7⟩:=q7; exact⟨σ7,H7,I7.unpinned,q7⟩
  | ret v=>obtain⟨x7,σ7,H7,I7,r7,q7⟩:=q7; exact⟨x7,σ7,H7,I7.unpinned,r7,q7⟩
end

end L2

namespace L2
open PySem PySem.Spec PyProof.Rows

abbrev R2:=V→V→Hp→VK→Prop
def OpR (X:Cx)(f:Value→Value→Sem Value)(r:R2):Prop:=
 ∀(pins:List (Addr×Obj)) (s:Shared) (σ:St) (H:Hp) (x y:V) (v u:Value) (Q:VK),Inv X pins σ H s→zav x v→zav y u→r x y H Q→
  wpAny (model X.prog X.w) X.A (f v u) (EP X pins σ Q) X.xe s
def UnR (X:Cx)(f:Value→Sem Value)(r:V→Hp→VK→Prop):Prop:=
 ∀(pins:List (Addr×Obj)) (s:Shared) (σ:St) (H:Hp) (x:V) (v:Value) (Q:VK),Inv X pins σ H s→zav x v→r x H Q→
  wpAny (model X.prog X.w) X.A (f v) (EP X pins σ Q) X.xe s
def zbd (X:Cx)(f:Value)(r:List V→Hp→VK→Prop):Prop:=
 ∀(pins:List (Addr×Obj)) (s:Shared) (σ:St) (H:Hp) (xs:List V) (us:List Value) (Q:VK),Inv X pins σ H s→zat xs us→r xs H Q→
  wpAny (model X.prog X.w) X.A (call f us) (EP X pins σ Q) X.xe s
def tOp (r:R2)(ta tb:TE):TE:=fun σ H Q=>ta σ H fun x H1=>tb σ H1 fun y H2=>r x y H2 Q
def tUn (r:V→Hp→VK→Prop)(ta:TE):TE:=fun σ H Q=>ta σ H fun x H1=>r x H1 Q
def rI (C:Int→Int→Prop)(g:Int→Int→V):R2:=fun x y H Q=>∃i j,x=.int i∧y=.int j∧C i j∧Q (g i j) H
def rI0 (g:Int→Int→V):R2:=fun x y H Q=>∃i j,x=.int i∧y=.int j∧Q (g i j) H
def rU (g:Int→V):V→Hp→VK→Prop:=fun x H Q=>∃i,x=.int i∧Q (g i) H

section
variable {X:Cx}{a b c:Expr}{ta tb tc:TE}{pos:Pos}

theorem binT (ha:PE X a ta)(hb:PE X b tb){pins:List (Addr×Obj)}{s:Shared}{σ:St}{H:Hp}{R:V→V→Hp→Prop}(I:Inv X pins σ H s)
  (h:ta σ H fun x H1=>tb σ H1 fun y H2=>R x y H2){Q:Value→Shared→Prop}{f:Value→Value→Sem Value}
  (hf:∀v u s2 x y H2,Inv X pins σ H2 s2→zav x v→zav y u→R x y H2→wpAny (model X.prog X.w) X.A (f v u) Q X.xe s2):
  wpAny (model X.prog X.w) X.A (eval a X.env) (fun v s₁=>wpAny (model X.prog X.w) X.A (eval b X.env) (fun u s₂=>wpAny (model X.prog X.w) X.A (f v u) Q X.xe s₂) X.xe s₁) X.xe s:=by
 refine thn (ha pins s σ H _ I h) fun v s1 ⟨x,H1,I1,r1,q1⟩=>?_
 refine thn (hb pins s1 σ H1 _ I1 q1) fun u s2 ⟨y,H2,I2,r2,q2⟩=>?_
 exact hf v u s2 x y H2 I2 r1 r2 q2

theorem pe_op {op:Operator}{r:R2}(ho:OpR X (binaryOp op) r)(ha:PE X a ta)(hb:PE X b tb):PE X (.BinOp a op b pos) (tOp r ta tb):=by
 intro pins s σ H Q I h
 exact wpAny_BinOp (binT ha hb I h fun v u s2 x y H2 I2 rx ry q=>ho pins s2 σ H2 x y v u Q I2 rx ry q)
theorem pe_un {op:UnaryOp}{r:V→Hp→VK→Prop}(ho:UnR X (unaryOp op) r)(ha:PE X a ta):PE X (.UnaryOp op a pos) (tUn r ta):=by
 intro pins s σ H Q I h
 exact UnaryOp_ (thn (ha pins s σ H _ I h) fun v s1 ⟨x,H1,I1,r1,q1⟩=>ho pins s1 σ H1 x v Q I1 r1 q1)
theorem opI {f:Value→Value→Sem Value}{C:Int→Int→Prop}{g:Int→Int→Int}
  (rule:∀(i j:Int) (t u:Tok) (s:Shared) (Q:Value→Shared→Prop) (E:Value→Shared→Prop),C i j→Q (.int (g i j) s.toks) { s with toks:=s.toks + 1 }→wpAny (model X.prog X.w) X.A (f (.int i t) (.int j u)) Q E s):
  OpR X f (rI C fun i j=>.int (g i j)):=by
 intro pins s σ H x y v u Q I rx ry h
 obtain⟨i,j,rfl,rfl,hc,q⟩:=h
 obtain⟨t,rfl⟩:=rx
 obtain⟨t',rfl⟩:=ry
 exact rule i j t t' s _ _ hc ⟨.int (g i j),H,I.tok _,⟨_,rfl⟩,q⟩
theorem opI0 {f:Value→Value→Sem Value}{g:Int→Int→Int}
  (rule:∀(i j:Int) (t u:Tok) (s:Shared) (Q:Value→Shared→Prop) (E:Value→Shared→Prop),Q (.int (g i j) s.toks) { s with toks:=s.toks + 1 }→wpAny (model X.prog X.w) X.A (f (.int i t) (.int j u)) Q E s):
  OpR X f (rI0 fun i j=>.int (g i j)):=by
 intro pins s σ H x y v u Q I rx ry h
 obtain⟨i,j,rfl,rfl,q⟩:=h
 obtain⟨t,rfl⟩:=rx
 obtain⟨t',rfl⟩:=ry
 exact rule i j t t' s _ _ ⟨.int (g i j),H,I.tok _,⟨_,rfl⟩,q⟩
theorem opB0 {f:Value→Value→Sem Value}{g:Int→Int→Bool}
  (rule:∀(i j:Int) (t u:Tok) (s:Shared) (Q:Value→Shared→Prop) (E:Value→Shared→Prop),Q (.bool (g i j)) s→wpAny (model X.prog X.w) X.A (f (.int i t) (.int j u)) Q E s):
  OpR X f (rI0 fun i j=>.bl (g i j)):=by
 intro pins s σ H x y v u Q I rx ry h
 obtain⟨i,j,rfl,rfl,q⟩:=h
 obtain⟨t,rfl⟩:=rx
 obtain⟨t',rfl⟩:=ry
 exact rule i j t t' s _ _ ⟨.bl (g i j),H,I,rfl,q⟩

def CMul (i j:Int):Prop:=(-(2 ^ 64) < i∧i < 2 ^ 64)∨(-(2 ^ 64) < j∧j < 2 ^ 64)
theorem CMul.ok {i j:Int}(h:CMul i j):IntMulOk i j:=by
 rcases h with ⟨h1,h2⟩ | ⟨h1,h2⟩
 ·exact .of_left (intBits_le_64 h1 h2)
 ·exact .of_right (intBits_le_64 h1 h2)
theorem zux:OpR X (binaryOp .Add) (rI0 fun i j=>.int (i + j)):=opI0 fun _ _ _ _ _ _ _ q=>add_int q
theorem zt8:OpR X (binaryOp .Sub) (rI0 fun i j=>.int (i - j)):=opI0 fun _ _ _ _ _ _ _ q=>sub_int q
theorem zsR:OpR X (binaryOp .Mod) (rI (fun _ j=>0 < j) fun i j=>.int (i % j)):=opI fun i j _ _ _ _ _ hc q=>by
 have h1:(0:Int) < j:=hc
 exact mod_int' (by omega) (by rw[Int.fmod_eq_emod_of_nonneg i (by omega)]; exact q)
theorem unI {f:Value→Sem Value}{g:Int→Int}
  (rule:∀(i:Int) (t:Tok) (s:Shared) (Q:Value→Shared→Prop) (E:Value→Shared→Prop),Q (.int (g i) s.toks) { s with toks:=s.toks + 1 }→wpAny (model X.prog X.w) X.A (f (.int i t)) Q E s):
  UnR X f (rU fun i=>.int (g i)):=by
 intro pins s σ H x v Q I rx h
 obtain⟨i,rfl,q⟩:=h
 obtain⟨t,rfl⟩:=rx
 exact rule i t s _ _ ⟨.int (g i),H,I.tok _,⟨_,rfl⟩,q⟩
theorem zur:UnR X (unaryOp .USub) (rU fun i=>.int (-i)):=unI fun _ _ _ _ _ q=>neg_int q
end

def zkP:V→V→Bool
 | .non,.non=>true | .non,.int _=>true | .int _,.non=>true | .non,.bl _=>true | .bl _,.non=>true | .non,.str _=>true | .str _,.non=>true
 | .int _,.int _=>true | .bl _,.bl _=>true | .str _,.str _=>true | .byt _,.byt _=>true
 | .int _,.str _=>true | .str _,.int _=>true | .bl _,.str _=>true | .str _,.bl _=>true
 | _,_=>false
def rEq:R2:=fun x y H Q=>zkP x y=true∧Q (.bl (decide (x=y))) H
def rNe:R2:=fun x y H Q=>zkP x y=true∧Q (.bl (!decide (x=y))) H

theorem zq1 {i j:Int}:decide (V.int i=V.int j)=(i == j):=by
 rw[Bool.eq_iff_iff]
 simp
theorem zqH {i j:Bool}:decide (V.bl i=V.bl j)=(i == j):=by
 rw[Bool.eq_iff_iff]
 simp
theorem zpI {i j:Str}:decide (V.str i=V.str j)=(i == j):=by
 rw[Bool.eq_iff_iff]
 simp
theorem zpr {i j:Array UInt8}:decide (V.byt i=V.byt j)=(i.toList == j.toList):=by
 rw[Bool.eq_iff_iff]
 cases i
 cases j
 simp

section
variable {X:Cx}{a b c:Expr}{ta tb tc:TE}{pos:Pos}
theorem zaY {pins:List (Addr×Obj)}{σ:St}{H:Hp}{s:Shared}{Q:VK}{k k':Bool}(I:Inv X pins σ H s)(q:Q (.bl k) H)(e:k=k'):EP X pins σ Q (.bool k') s:=by
 subst e
 exact⟨.bl k,H,I,rfl,q⟩
theorem zoh:OpR X (compareOp .Eq) rEq:=by
 intro pins s σ H x y v u Q I rx ry h
 obtain⟨hs,q⟩:=h
 cases x with
 | non=>
  cases rx
  cases y with
  | non=>cases ry; exact PySem.EqNone.eq_none_none (zaY I q (by simp))
  | bl j=>cases ry; exact PySem.EqNone.eq_none_bool (zaY I q (by simp))
  | int j=>obtain⟨t',rfl⟩:=ry; exact PySem.EqNone.eq_none_int (zaY I q (by simp))
  | str j=>obtain⟨t',rfl⟩:=ry; exact PySem.EqNone.eq_none_str (zaY I q (by simp))
  | _=>exact absurd (show false=true from hs) Bool.false_ne_true
 | bl i=>
  cases rx
  cases y with
  | non=>cases ry; exact PySem.EqNone.eq_bool_none (zaY I q (by simp))
  | bl j=>cases ry; exact eq_bool (zaY I q zqH)
  | str j=>obtain⟨t',rfl⟩:=ry; exact PySem.EqMixed.eq_bool_str (zaY I q (by simp))
  | _=>exact absurd (show false=true from hs) Bool.false_ne_true
 | int i=>
  obtain⟨t,rfl⟩:=rx
  cases y with
  | non=>cases ry; exact PySem.EqNone.eq_int_none (zaY I q (by simp))
  | int j=>obtain⟨t',rfl⟩:=ry; exact eq_int (zaY I q zq1)
  | str j=>obtain⟨t',rfl⟩:=ry; exact PySem.EqMixed.eq_int_str (zaY I q (by simp))
  | _=>exact absurd (show false=true from hs) Bool.false_ne_true
 | str i=>
  obtain⟨t,rfl⟩:=rx
  cases y with
  | non=>cases ry; exact PySem.EqNone.eq_str_none (zaY I q (by simp))
  | bl j=>cases ry; exact PySem.EqMixed.eq_str_bool (zaY I q (by simp))
  | int j=>obtain⟨t',rfl⟩:=ry; exact PySem.EqMixed.eq_str_int (zaY I q (by simp))
  | str j=>obtain⟨t',rfl⟩:=ry; exact eq_str (zaY I q zpI)
  | _=>exact absurd (show false=true from hs) Bool.false_ne_true
 | byt i=>
  obtain⟨t,rfl⟩:=rx
  cases y with
  | byt j=>obtain⟨t',rfl⟩:=ry; exact PySem.W.eq_bytes (zaY I q zpr)
  | _=>exact absurd (show false=true from hs) Bool.false_ne_true
 | _=>cases y <;> exact absurd (show false=true from hs) Bool.false_ne_true
theorem op_ne:OpR X (compareOp .NotEq) rNe:=by
 intro pins s σ H x y v u Q I rx ry h
 obtain⟨hs,q⟩:=h
 cases x with
 | non=>
  cases rx
  cases y with
  | non=>cases ry; exact PySem.EqNone.ne_none_none (zaY I q (by simp))
  | bl j=>cases ry; exact PySem.EqNone.ne_none_bool (zaY I q (by simp))
  | int j=>obtain⟨t',rfl⟩:=ry; exact PySem.EqNone.ne_none_int (zaY I q (by simp))
  | str j=>obtain⟨t',rfl⟩:=ry; exact PySem.EqNone.ne_none_str (zaY I q (by simp))
  | _=>exact absurd (show false=true from hs) Bool.false_ne_true
 | bl i=>
  cases rx
  cases y with
  | non=>cases ry; exact PySem.EqNone.ne_bool_none (zaY I q (by simp))
  | bl j=>cases ry; exact ne_bool (zaY I q (congrArg not zqH))
  | str j=>obtain⟨t',rfl⟩:=ry; exact PySem.EqMixed.ne_bool_str (zaY I q (by simp))
  | _=>exact absurd (show false=true from hs) Bool.false_ne_true
 | int i=>
  obtain⟨t,rfl⟩:=rx
  cases y with
  | non=>cases ry; exact PySem.EqNone.ne_int_none (zaY I q (by simp))
  | int j=>obtain⟨t',rfl⟩:=ry; exact ne_int (zaY I q (congrArg not zq1))
  | str j=>obtain⟨t',rfl⟩:=ry; exact PySem.EqMixed.ne_int_str (zaY I q (by simp))
  | _=>exact absurd (show false=true from hs) Bool.false_ne_true
 | str i=>
  obtain⟨t,rfl⟩:=rx
  cases y with
  | non=>cases ry; exact PySem.EqNone.ne_str_none (zaY I q (by simp))
  | bl j=>cases ry; exact PySem.EqMixed.ne_str_bool (zaY I q (by simp))
  | int j=>obtain⟨t',rfl⟩:=ry; exact PySem.EqMixed.ne_str_int (zaY I q (by simp))
  | str j=>obtain⟨t',rfl⟩:=ry; exact ne_str (zaY I q (congrArg not zpI))
  | _=>exact absurd (show false=true from hs) Bool.false_ne_true
 | byt i=>
  obtain⟨t,rfl⟩:=rx
  cases y with
  | byt j=>obtain⟨t',rfl⟩:=ry; exact PySem.W.ne_bytes (zaY I q (congrArg not zpr))
  | _=>exact absurd (show false=true from hs) Bool.false_ne_true
 | _=>cases y <;> exact absurd (show false=true from hs) Bool.false_ne_true

theorem op_lt:OpR X (compareOp .Lt) (rI0 fun i j=>.bl (decide (i < j))):=opB0 fun _ _ _ _ _ _ _ q=>lt_int q
theorem op_le:OpR X (compareOp .LtE) (rI0 fun i j=>.bl (decide (i≤j))):=opB0 fun _ _ _ _ _ _ _ q=>le_int q
theorem op_ge:OpR X (compareOp .GtE) (rI0 fun i j=>.bl (decide (j≤i))):=opB0 fun _ _ _ _ _ _ _ q=>ge_int q
theorem zsp:OpR X (compareOp .Is) (fun x y H Q=>y=.non∧Q (.bl (decide (x=.non))) H):=by
 intro pins s σ H x y v u Q I rx ry h
 obtain⟨rfl,q⟩:=h
 cases ry
 refine is_none_gen (zaY I q ?_)
 cases x <;> first
  | (cases rx; rfl)
  | (obtain⟨t,rfl⟩:=rx; rfl)
theorem zt3:OpR X (compareOp .IsNot) (fun x y H Q=>y=.non∧Q (.bl (!decide (x=.non))) H):=by
 intro pins s σ H x y v u Q I rx ry h
 obtain⟨rfl,q⟩:=h
 cases ry
 refine isnot_none_gen (zaY I q ?_)
 cases x <;> first
  | (cases rx; rfl)
  | (obtain⟨t,rfl⟩:=rx; rfl)

theorem OpR.or {f:Value→Value→Sem Value}{r r':R2}(h:OpR X f r)(h':OpR X f r'):OpR X f (fun x y H Q=>r x y H Q∨r' x y H Q):=by
 intro pins s σ H x y v u Q I rx ry q
 rcases q with q | q
 ·exact h pins s σ H x y v u Q I rx ry q
 ·exact h' pins s σ H x y v u Q I rx ry q

theorem zaE (b:Expr){op:CmpOp}(h:op≠.In:=by decide)(h2:op≠.NotIn:=by decide):behindInMarks op b=false:=by
 have e1:(op == CmpOp.In)=false:=by cases op <;> first | rfl | exact absurd rfl h
 have e2:(op == CmpOp.NotIn)=false:=by cases op <;> first | rfl | exact absurd rfl h2
 cases b <;> simp[behindInMarks,e1,e2]
theorem ztw {op:CmpOp}{r:R2}(ho:OpR X (compareOp op) r)(ha:PE X a ta)(hb:PE X b tb)(hm:behindInMarks op b=false):PE X (.Compare a [op] [b] pos) (tOp r ta tb):=by
 intro pins s σ H Q I h
 exact wpAny_Compare1 (binT ha hb I h fun v u s2 x y H2 I2 rx ry q=>ho pins s2 σ H2 x y v u Q I2 rx ry q) hm
def zo5 (t:TE):TT:=fun σ H Q=>t σ H fun x H'=>∃k,x=.bl k∧Q k H'
theorem zs9 {op:CmpOp}{r:R2}(ho:OpR X (compareOp op) r)(ha:PE X a ta)(hb:PE X b tb)(hm:behindInMarks op b=false):PT X (.Compare a [op] [b] pos) (zo5 (tOp r ta tb)):=by
 intro pins s σ H Q I h
 refine wpAny_isTrue_Compare1 (thn (ha pins s σ H _ I h) fun v s1 ⟨x,H1,I1,r1,q1⟩=>thn (hb pins s1 σ H1 _ I1 q1) fun u s2 ⟨y,H2,I2,r2,q2⟩=>
  thn (ho pins s2 σ H2 x y v u _ I2 r1 r2 q2) fun c s3 ⟨z,H3,I3,r3,k,e,q3⟩=>?_) hm
 subst e
 cases r3
 exact wpAny_truthy_bool ⟨H3,I3,q3⟩
def zoD (r r':R2)(ta tb tc:TE):TE:=fun σ H Q=>ta σ H fun x H1=>tb σ H1 fun y H2=>r x y H2 fun z H3=>∃k,z=.bl k∧
 (if k=true then tc σ H3 fun w' H4=>r' y w' H4 Q else Q (.bl false) H3)
theorem zsT {op op':CmpOp}{r r':R2}(ho:OpR X (compareOp op) r)(ho':OpR X (compareOp op') r')(ha:PE X a ta)(hb:PE X b tb)(hc:PE X c tc)
  (hm:lastMarks [op,op'] [b,c]=false:=by with_unfolding_all rfl):PE X (.Compare a [op,op'] [b,c] pos) (zoD r r' ta tb tc):=by
 intro pins s σ H Q I h
 refine Compare_chain (thn (ha pins s σ H _ I h) fun v s1 ⟨x,H1,I1,r1,q1⟩=>chain_link (thn (hb pins s1 σ H1 _ I1 q1) fun u s2 ⟨y,H2,I2,r2,q2⟩=>
  thn (ho pins s2 σ H2 x y v u _ I2 r1 r2 q2) fun d s3 ⟨z,H3,I3,r3,k,e,q3⟩=>?_)) hm
 subst e
 cases r3
 refine wpAny_truthy_bool ?_
 cases k with
 | false=>exact ite_ff ⟨.bl false,H3,I3,rfl,q3⟩
 | true=>exact ite_tt (chain_last (thn (hc pins s3 σ H3 _ I3 q3) fun w' s4 ⟨z',H4,I4,r4,q4⟩=>ho' pins s4 σ H4 y z' u w' Q I4 r2 r4 q4))
theorem zrK {op op':CmpOp}{r r':R2}(ho:OpR X (compareOp op) r)(ho':OpR X (compareOp op') r')(ha:PE X a ta)(hb:PE X b tb)(hc:PE X c tc)
  (hm:lastMarks [op,op'] [b,c]=false:=by with_unfolding_all rfl):PT X (.Compare a [op,op'] [b,c] pos) (zo5 (zoD r r' ta tb tc)):=by
 intro pins s σ H Q I h
 refine isTrue_chain (thn (ha pins s σ H _ I h) fun v s1 ⟨x,H1,I1,r1,q1⟩=>test_link (thn (hb pins s1 σ H1 _ I1 q1) fun u s2 ⟨y,H2,I2,r2,q2⟩=>
  thn (ho pins s2 σ H2 x y v u _ I2 r1 r2 q2) fun d s3 ⟨z,H3,I3,r3,k,e,q3⟩=>?_)) hm
 subst e
 cases r3
 refine wpAny_truthy_bool ?_
 cases k with
 | false=>
  obtain⟨k',e',q'⟩:=q3
  cases e'
  exact ite_ff ⟨H3,I3,q'⟩
 | true=>
  refine ite_tt (test_last (thn (hc pins s3 σ H3 _ I3 q3) fun w' s4 ⟨z',H4,I4,r4,q4⟩=>thn (ho' pins s4 σ H4 y z' u w' _ I4 r2 r4 q4) fun d' s5 ⟨z2,H5,I5,r5,k2,e2,q5⟩=>?_))
  subst e2
  cases r5
  exact wpAny_truthy_bool ⟨H5,I5,q5⟩

theorem zi7:(sizeLine:Nat) < 2 ^ 63:=by rw[sizeLine_eq]; decide
theorem zdl {x:V}{us:List Value}(r:zat [x] us):∃u,us=[u]∧zav x u:=by
 cases r with
 | cons r1 r2=>cases r2; exact⟨_,rfl,r1⟩
theorem znd {x y:V}{us:List Value}(r:zat [x,y] us):∃u w',us=[u,w']∧zav x u∧zav y w':=by
 cases r with
 | cons r1 r2=>
  cases r2 with
  | cons r3 r4=>cases r4; exact⟨_,_,rfl,r1,r3⟩
theorem zun:zbd X (.builtin "abs") (fun xs H Q=>∃i,xs=[.int i]∧Q (.int (if i < 0 then -i else i)) H):=by
 intro pins s σ H xs us Q I r h
 obtain⟨i,rfl,q⟩:=h
 obtain⟨u,rfl,t,rfl⟩:=zdl r
 exact call_abs_int fun u tk=>⟨.int (if i < 0 then -i else i),H,I.tok _,⟨_,rfl⟩,q⟩
theorem zug (hc:X.calm=true):zbd X (.builtin "max") (fun xs H Q=>∃i j,xs=[.int i,.int j]∧Q (.int (if j > i then j else i)) H):=by
 intro pins s σ H xs us Q I r h
 obtain⟨i,j,rfl,q⟩:=h
 obtain⟨u,w',rfl,⟨t,rfl⟩,⟨t',rfl⟩⟩:=znd r
 refine max_two_ints (I.ok.hd hc) fun h' tk k=>⟨_,H,I.kept k,?_,q⟩
 by_cases hj:j > i
 ·rw[if_pos hj,if_pos hj]; exact⟨_,rfl⟩
 ·rw[if_neg hj,if_neg hj]; exact⟨_,rfl⟩
theorem zx3 (hc:X.calm=true):zbd X (.builtin "min") (fun xs H Q=>∃i j,xs=[.int i,.int j]∧Q (.int (if j < i then j else i)) H):=by
 intro pins s σ H xs us Q I r h
 obtain⟨i,j,rfl,q⟩:=h
 obtain⟨u,w',rfl,⟨t,rfl⟩,⟨t',rfl⟩⟩:=znd r
 refine min_two_ints (I.ok.hd hc) fun h' tk k=>⟨_,H,I.kept k,?_,q⟩
 by_cases hj:j < i
 ·rw[if_pos hj,if_pos hj]; exact⟨_,rfl⟩
 ·rw[if_neg hj,if_neg hj]; exact⟨_,rfl⟩
end
end L2

namespace L2
open PySem PySem.Spec PyProof.Rows

structure zew (h:Heap)(x dx C:Addr)(mA:Str→Option Value):Prop where
 obj:h.get? x=some (PySem.W.instObj C dx)
 ns:h.Ns1 dx mA
 ne:dx≠x

theorem zs0 {h:Heap}{dx:Addr}{mA:Str→Option Value}(n:h.Ns1 dx mA):∃od,h.get? dx=some od∧∀name,PySem.W.lookIn name od=some (mA name):=by
 obtain⟨o,es,ep,ho,hd,hk,_,hm⟩:=n
 refine⟨o,ho,fun name=>?_⟩
 have e:=hm name
 unfold nsFind findBy at e
 rw[← Array.find?_toList] at e
 unfold PySem.W.lookIn
 rw[hd]
 dsimp only
 split
 ·rename_i y q
  rw[q] at e
  exact congrArg some e
 ·rename_i q
  rw[q] at e
  have a:es.toList.any (·.refKey)=false:=by
   rw[List.any_eq_false]
   intro y hy
   obtain⟨z,t,hkey⟩:=hk y (Array.mem_toList_iff.mp hy)
   simp[DictEntry.refKey,hkey]
  have a':¬ es.toList.any (·.refKey)=true:=by rw[a]; exact Bool.false_ne_true
  rw[if_neg a']
  exact congrArg some e

theorem zew.look {h:Heap}{x dx C:Addr}{mA:Str→Option Value}(I:zew h x dx C mA):∃od,PySem.W.InstAt h x (PySem.W.instObj C dx) C (some od)∧∀name,PySem.W.lookIn name od=some (mA name):=
 let ⟨od,ho,hl⟩:=zs0 I.ns
 ⟨od,⟨I.obj,rfl,rfl,ho⟩,hl⟩

section
variable {prog:Program}{w:World}{A:Around}{E:Value→Shared→Prop}{s:Shared}{K:PySem.W.Frag}{x dx C f:Addr}{mA:Str→Option Value}{name:Str}{v:Value}

theorem zti {expr:Bool}{Q:Value→Shared→Prop}(X:K.In s.heap)(I:zew s.heap x dx C mA)(hg:PySem.W.plainGet K C name=true)(hh:PySem.W.hasDictIn K C=true)
  (ha:PySem.W.findIn K (.ref C) name=some none)(hv:mA name=some v)(hv':PySem.W.handedIn v=true)(h:Q v { s with toks:=s.toks + 1 }):
  wpAny (model prog w) A (getAttr (.ref x) name expr) Q E s:=by
 obtain⟨od,J,hl⟩:=I.look
 exact PySem.W.get_value X J (PySem.W.plainGet_of hg).1 (PySem.W.findObj_own hh ha rfl (by rw[hl,hv])) hv' h

theorem zrQ {pl:Sem Bool}{Q:Value×List Value→Shared→Prop}(X:K.In s.heap)(I:zew s.heap x dx C mA)(hg:PySem.W.plainGet K C name=true)
  (hf:PySem.W.findIn K (.ref C) name=some (some (.ref f)))(ht:PySem.W.isFn K (.ref f)=true)(hv:mA name=none)(h:Q (.ref f,[.ref x]) s):
  wpAny (model prog w) A (getMethod (.ref x) name pl) Q E s:=by
 obtain⟨od,J,hl⟩:=I.look
 exact PySem.W.method_fn X J (PySem.W.plainGet_of hg).1 (PySem.W.plainGet_of hg).2 hf (beq_iff_eq.mp ht) (by show (PySem.W.lookIn name od).map (·.isSome)=some false; rw[hl,hv]; rfl) h

theorem ztx {ns:List Str}{Q:Unit→Shared→Prop}(X:K.In s.heap)(I:zew s.heap x dx C mA)
  (hs:PySem.W.findIn K (.ref C) "__setattr__"=some (some (.builtin "object.__setattr__")))(hp:PySem.W.plainOver K C=true)(ht:PySem.W.takerIn K C name=some none)(hh:PySem.W.hasDictIn K C=true)
  (hw:PySem.Within mA ns)(hsz:ns.length≤sizeLine)
  (h:∀h',zew h' x dx C (fun y=>if y=name then some v else mA y)→Heap.SameBut dx s.heap h'→Q () { s with heap:=h',toks:=s.toks + 2 }):
  wpAny (model prog w) A (setAttr (.ref x) name v) Q E s:=by
 obtain⟨od,J,hl⟩:=I.look
 refine PySem.W.set_plain X J hs (PySem.W.osa_open (s:={ s with toks:=s.toks + 1 }) (r:=none) X J hp ht fun b=>?_)
 obtain⟨cd,hc,hd'⟩:=PySem.W.any_some hh
 have hx:s.heap.get? x=some ⟨.ref C,some dx,.plain,#[]⟩:=I.obj
 refine wpAny_bind (wpAny_pure (wpAny_bind (wpAny_bind (wpAny_loadPart hx (wpAny_bind (PySem.W.Looks.here (s:={ s with toks:=s.toks + 1 }) (PySem.W.looks_clsIn X hc) ?_))))))
 rw[hd']
 refine wpAny_pure (a:=some dx) (wpAny_bind (wpAny_pure (wpAny_bind ?_)))
 refine wpAny_nsSet1 (s:={ s with toks:=s.toks + 1 }) I.ns fun h' hn2 hs2=>?_
 obtain⟨oD,esD,epD,hoD,hdD,hcD⟩:=hn2.count (PySem.Within.cons name v hw)
 refine wpAny_bind (wpAny_lookBehind hoD (by rw[hdD]; exact pastItsLine_dict (Nat.le_trans hcD (by rw[List.length_cons]; omega))) ?_)
 exact wpAny_pure (h _ ⟨(hs2.2 _ (Ne.symm I.ne)).trans I.obj,hn2,I.ne⟩ hs2)

theorem zw0 {R:Result→Shared→Prop}{vs:List Value}{kw:List (Str×Value)}(X:K.In s.heap)(hm:PySem.W.makesIn K C=true)
  (hi:PySem.W.findIn K (.ref C) "__init__"=some (some (.ref f)))(hf:PySem.W.typeIn K (.ref f)=some (.type "function"))
  (h:codeAny (model prog w) (A.under (.builtin "type.__call__" ⟨.ref C::vs,kw⟩)) (.call (.ref f) ⟨.ref (s.heap.objs.size + 1)::vs,kw⟩) (PySem.W.InitBack (s.heap.objs.size + 1) R)
   { s with heap:=(s.heap.push PySem.W.emptyDict).push (PySem.W.instObj C s.heap.objs.size) }):
  codeAny (model prog w) A (.call (.ref C) ⟨vs,kw⟩) R s:=by
 obtain⟨hh,g,d,t,os⟩:=s
 exact PySem.W.make_core (PySem.W.makes_of X hm) (PySem.W.looks_findIn X hi) (fun self=>PySem.W.bind_fn X self hf) (.inl rfl) h
end

def zbw (f:Str)(v:V):List (Str×V)→List (Str×V)
 | []=>[(f,v)]
 | (g,x)::r=>if g=f then (g,v)::r else (g,x)::zbw f v r
theorem zp9 (f g:Str)(v:V):∀fs:List (Str×V),(zbw f v fs).lookup g=if g=f then some v else fs.lookup g
 | []=>by
  show List.lookup g [(f,v)]=_
  by_cases h:g=f
  ·have hb:(g == f)=true:=beq_iff_eq.mpr h
   simp only[List.lookup,hb,if_pos h]
  ·have hb:(g == f)=false:=beq_eq_false_iff_ne.mpr h
   simp only[List.lookup,hb,if_neg h]
 | (k,x)::r=>by
  have ih:=zp9 f g v r
  rw[show zbw f v ((k,x)::r)=(if k=f then (k,v)::r else (k,x)::zbw f v r) from rfl]
  by_cases hk:k=f
  ·rw[if_pos hk]
   by_cases h:g=k
   ·have hb:(g == k)=true:=beq_iff_eq.mpr h
    simp only[List.lookup,hb,if_pos (h.trans hk)]
   ·have hb:(g == k)=false:=beq_eq_false_iff_ne.mpr h
    simp only[List.lookup,hb,if_neg (fun e:g=f=>h (e.trans hk.symm))]
  ·rw[if_neg hk]
   by_cases h:g=k
   ·have hb:(g == k)=true:=beq_iff_eq.mpr h
    simp only[List.lookup,hb,if_neg (fun e:g=f=>hk (h.symm.trans e))]
   ·have hb:(g == k)=false:=beq_eq_false_iff_ne.mpr h
    simp only[List.lookup,hb]
    exact ih
theorem znO (f:Str)(v:V):∀fs:List (Str×V),f∈(zbw f v fs).map (·.1)∧∀g,g∈fs.map (·.1)→g∈(zbw f v fs).map (·.1)
 | []=>⟨by simp[zbw],fun g h=>by simp at h⟩
 | (k,x)::r=>by
  obtain⟨i1,i2⟩:=znO f v r
  rw[show zbw f v ((k,x)::r)=(if k=f then (k,v)::r else (k,x)::zbw f v r) from rfl]
  by_cases hk:k=f
  ·rw[if_pos hk]
   subst hk
   exact⟨by simp,fun g h=>by simpa using h⟩
  ·rw[if_neg hk]
   refine⟨?_,fun g h=>?_⟩
   ·rw[List.map_cons]
    exact List.mem_cons_of_mem _ i1
   ·rw[List.map_cons] at h ⊢
    rcases List.mem_cons.mp h with e | e
    ·exact List.mem_cons.mpr (.inl e)
    ·exact List.mem_cons_of_mem _ (i2 g e)
theorem zpz (f:Str)(v:V):∀fs:List (Str×V),(zbw f v fs).length≤fs.length + 1
 | []=>by simp[zbw]
 | (k,x)::r=>by
  have ih:=zpz f v r
  rw[show zbw f v ((k,x)::r)=(if k=f then (k,v)::r else (k,x)::zbw f v r) from rfl]
  by_cases hk:k=f
  ·rw[if_pos hk,List.length_cons,List.length_cons]; omega
  ·rw[if_neg hk,List.length_cons,List.length_cons]; omega

theorem zbR.some_of {v:V}{o:Option Value}(r:zbR (some v) o):∃u,o=some u∧zav v u:=by
 cases o with
 | none=>exact(show False from r).elim
 | some u=>exact⟨u,rfl,r⟩
theorem zbR.none_of {o:Option Value}(r:zbR none o):o=none:=by
 cases o with
 | none=>rfl
 | some u=>exact(show False from r).elim
theorem zwh {v:V}{u:Value}(r:zav v u):PySem.W.handedIn u=true:=by
 cases v with
 | non=>cases (show u=Value.none from r); rfl
 | bl b=>cases (show u=Value.bool b from r); rfl
 | int i=>obtain⟨t,e⟩:=(show ∃t,u=Value.int i t from r); cases e; rfl
 | str x=>obtain⟨t,e⟩:=(show ∃t,u=Value.str x t from r); cases e; rfl
 | byt b=>obtain⟨t,e⟩:=(show ∃t,u=Value.bytes b t from r); cases e; rfl
 | flt b=>obtain⟨t,e⟩:=(show ∃t,u=Value.float b t from r); cases e; rfl
 | ref a=>cases (show u=Value.ref a from r); rfl
 | ty n=>cases (show u=Value.type n from r); rfl

section
variable {P:Program}{w:World}{H H':Hp}{h h':Heap}{a C dx:Addr}{fs fs':List (Str×V)}
theorem zle (hok:HOk P w H h)(e:H a=some (.ins C dx fs)):∃mA,zew h a dx C mA∧(∀f,zbR (fs.lookup f) (mA f))∧PySem.Within mA (fs.map (·.1))∧fs.length≤1000∧H dx=some (.own a):=by
 obtain⟨d,z,ne,ob,mA,n,r,q⟩:=(show zbx P w H h a (.ins C dx fs) from hok a _ e)
 exact⟨mA,⟨ob,n,ne⟩,r,q,z,d⟩
end

structure Cls (K:PySem.W.Frag)(C:Addr):Prop where
 pg:PySem.W.plainGet K C Str.empty=true
 hd:PySem.W.hasDictIn K C=true
 po:PySem.W.plainOver K C=true
 sa:PySem.W.findIn K (.ref C) "__setattr__"=some (some (.builtin "object.__setattr__"))
theorem Cls.get {K:PySem.W.Frag}{C:Addr}(c:Cls K C)(f:Str):PySem.W.plainGet K C f=true:=c.pg
def zbv (K:PySem.W.Frag)(C:Addr)(f:Str):Prop:=PySem.W.findIn K (.ref C) f=some none
theorem zbv.taker {K:PySem.W.Frag}{C:Addr}{f:Str}(n:zbv K C f):PySem.W.takerIn K C f=some none:=by
 unfold PySem.W.takerIn
 rw[show PySem.W.findIn K (.ref C) f=some none from n]
 rfl
structure Con (K:PySem.W.Frag)(C:Addr)(f:Str)(v:V)(u:Value):Prop where
 at_:PySem.W.findIn K (.ref C) f=some (some u)
 rel:zav v u
 get:PySem.W.specialIn K u "__get__"=some none
 cp:PySem.W.copiedNames.contains f=false
structure zfw (K:PySem.W.Frag)(C:Addr)(m:Str)(f:Addr):Prop where
 at_:PySem.W.findIn K (.ref C) m=some (some (.ref f))
 fn:PySem.W.isFn K (.ref f)=true
 kp:PySem.W.keepIn K (.ref f)=true

section
variable {X:Cx}{pins:List (Addr×Obj)}{σ:St}{H:Hp}{s:Shared}{a C dx:Addr}{fs:List (Str×V)}{f:Str}{v:V}{A:Around}{E:Value→Shared→Prop}

theorem zuw {b:Bool}{Q:Value→Shared→Prop}(I:Inv X pins σ H s)(e:H a=some (.ins C dx fs))(c:Cls X.K C)(n:zbv X.K C f)(l:fs.lookup f=some v)
  (h:∀u s',Inv X pins σ H s'→zav v u→Q u s'):wpAny (model X.prog X.w) A (getAttr (.ref a) f b) Q E s:=by
 obtain⟨mA,O,r,_,_,_⟩:=zle I.hok e
 obtain⟨u,hu,ru⟩:=zbR.some_of (v:=v) (o:=mA f) (by rw[← l]; exact r f)
 exact zti I.kIn O (c.get f) c.hd n hu (zwh ru) (h u _ (I.tok _) ru)

theorem zpA {m:Str}{g:Addr}{pl:Sem Bool}{Q:Value×List Value→Shared→Prop}(I:Inv X pins σ H s)(e:H a=some (.ins C dx fs))(c:Cls X.K C)(k:zfw X.K C m g)(l:fs.lookup m=none)
  (h:Q (.ref g,[.ref a]) s):wpAny (model X.prog X.w) A (getMethod (.ref a) m pl) Q E s:=by
 obtain⟨mA,O,r,_,_,_⟩:=zle I.hok e
 have hn:mA m=none:=zbR.none_of (by rw[← l]; exact r m)
 exact zrQ I.kIn O (c.get m) k.at_ k.fn hn h

theorem zwQ {y:V}{u:Value}{Q:Unit→Shared→Prop}(I:Inv X pins σ H s)(e:H a=some (.ins C dx fs))(c:Cls X.K C)(n:zbv X.K C f)(hl:fs.length < 1000)(ry:zav y u)
  (h:∀s',Inv X pins σ (upd H a (.ins C dx (zbw f y fs))) s'→Q () s'):wpAny (model X.prog X.w) A (setAttr (.ref a) f u) Q E s:=by
 obtain⟨mA,O,r,wi,_,ho⟩:=zle I.hok e
 have hz:(fs.map (·.1)).length≤sizeLine:=by rw[List.length_map,sizeLine_eq]; omega
 refine ztx I.kIn O c.sa c.po n.taker c.hd wi hz fun h' O' sb=>h _ ?_
 have hd:∃o,h'.get? dx=some o:=let ⟨o,_,_,e',_⟩:=O'.ns; ⟨o,e'⟩
 refine I.write (x:=a) (e:=dx) (by rw[e]; exact True.intro) (.inr ho) (fun b q hb z=>(sb.2 b hb).trans z) hd ?_
 refine⟨by rw[za2 O.ne]; exact ho,?_,O.ne,O'.obj,_,O'.ns,fun g=>?_,fun g hg=>?_⟩
 ·have:=zpz f y fs; omega
 ·show zbR ((zbw f y fs).lookup g) (if g=f then some u else mA g)
  rw[zp9]
  by_cases q:g=f
  ·rw[if_pos q,if_pos q]; exact ry
  ·rw[if_neg q,if_neg q]; exact r g
 ·by_cases q:g=f
  ·rw[q]; exact(znO f y fs).1
  ·refine(znO f y fs).2 g (wi g fun z=>hg ?_)
   show (if g=f then some u else mA g)=none
   rw[if_neg q]; exact z

theorem Inv.made (I:Inv X pins σ H s):Inv X pins σ (upd (upd H s.heap.objs.size (.own (s.heap.objs.size + 1))) (s.heap.objs.size + 1) (.ins C s.heap.objs.size []))
  { s with heap:=(s.heap.push PySem.W.emptyDict).push (PySem.W.instObj C s.heap.objs.size) }:=by
 have e1:(s.heap.push PySem.W.emptyDict).get? s.heap.objs.size=some PySem.W.emptyDict:=Heap.get?_push_size s.heap rfl
 have e2:((s.heap.push PySem.W.emptyDict).push (PySem.W.instObj C s.heap.objs.size)).get? (s.heap.objs.size + 1)=some (PySem.W.instObj C s.heap.objs.size):=by
  have:=Heap.get?_push_size (s.heap.push PySem.W.emptyDict) (o:=PySem.W.instObj C s.heap.objs.size) rfl
  rwa [Heap.size_push] at this
 have e3:(s.heap.push PySem.W.emptyDict).Ns s.heap.objs.size (fun _=>none):=⟨PySem.W.emptyDict,#[],_,e1,rfl,(fun e he=>absurd he (by simp)),fun _=>rfl⟩
 have I1:=I.laid (a:=s.heap.objs.size) (o:=.own (s.heap.objs.size + 1)) (h':=s.heap.push PySem.W.emptyDict) (t':=s.toks) (fun b u q=>Heap.get?_push_of_some _ q) (Nat.le_refl _) ⟨_,e1⟩
 refine I1.laid (a:=s.heap.objs.size + 1) (o:=.ins C s.heap.objs.size []) (t':=s.toks) (fun b u q=>Heap.get?_push_of_some _ q) (Nat.le_of_eq (Heap.size_push _ _)) ?_
 have ne:s.heap.objs.size≠s.heap.objs.size + 1:=Nat.ne_of_lt (Nat.lt_succ_self _)
 refine⟨by rw[za2 ne,zcC],Nat.zero_le _,ne,e2,fun _=>none,(Heap.Ns1.of_empty e3).at fun o q=>Heap.get?_push_of_some _ q,fun _=>True.intro,fun y hy=>absurd rfl hy⟩

theorem zva {prog:Program}{w:World}{env:Env}{e:Expr}{f:Str}{pos:Pos}{s:Shared}{Q:Value→Shared→Prop}(hb:attributeBase e f env (eval e env)=eval e env)
  (h:wpAny (model prog w) A (eval e env) (fun o s₁=>wpAny (model prog w) A (getAttr o f true) Q E s₁) E s):wpAny (model prog w) A (eval (.Attribute e f pos) env) Q E s:=
 Attribute_any_ h (by rw[arm_eval_Attribute,hb])
end

def tFld (K:PySem.W.Frag)(ta:TE)(f:Str):TE:=fun σ H Q=>ta σ H fun x H1=>∃a C dx fs v,x=.ref a∧H1 a=some (.ins C dx fs)∧Cls K C∧zbv K C f∧fs.lookup f=some v∧Q v H1
def sFld (K:PySem.W.Frag)(ta tv:TE)(f:Str):TS:=fun D σ H=>tv σ H fun y H1=>ta σ H1 fun x H2=>∃a C dx fs,x=.ref a∧H2 a=some (.ins C dx fs)∧Cls K C∧zbv K C f∧fs.length < 1000∧
 D.nx σ (upd H2 a (.ins C dx (zbw f y fs)))
section
variable {X:Cx}{o e value:Expr}{f:Str}{pos pos' tpos:Pos}{ta tv:TE}
theorem zwe (he:PE X e ta)(hb:attributeBase e f X.env (eval e X.env)=eval e X.env):PE X (.Attribute e f pos) (tFld X.K ta f):=by
 intro pins s σ H Q I h
 refine zva hb (thn (he pins s σ H _ I h) fun u s1 ⟨x,H1,I1,rx,a,C,dx,fs,v,ex,ea,c,n,l,q⟩=>?_)
 subst ex
 obtain rfl:u=Value.ref a:=rx
 exact zuw I1 ea c n l fun u' s2 I2 ru=>⟨v,H1,I2,ru,q⟩
theorem zto (ha:PE X o ta)(hv:PE X value tv)(hs:swapsWith value (some (.Attribute o f pos')) pos.line X.env=pure false):PS X (.Assign [.Attribute o f pos'] value pos) (sFld X.K ta tv f):=by
 intro pins s σ H D I h
 refine plainObj_wpAny_Assign_Attribute (thn (hv pins s σ H _ I h) fun u s1 ⟨y,H1,I1,ry,q⟩=>thn (ha pins s1 σ H1 _ I1 q) fun ov s2 ⟨x,H2,I2,rx,a,C,dx,fs,ex,ea,c,n,l,q2⟩=>?_) hs
 subst ex
 obtain rfl:ov=Value.ref a:=rx
 exact zwQ I2 ea c n l ry fun s3 I3=>⟨σ,_,I3,q2⟩
end

section
variable {X:Cx}{pins:List (Addr×Obj)}{σ:St}{H:Hp}{s:Shared}{A:Around}{E:Value→Shared→Prop}{Q:Value→Shared→Prop}{c:Value}{b:Bool}
inductive zcg (K:PySem.W.Frag)(H:Hp):V→Value→Prop where
 | non:zcg K H .non (.type "NoneType")
 | bl (x:Bool):zcg K H (.bl x) (.type "bool")
 | int (i:Int):zcg K H (.int i) (.type "int")
 | str (x:Str):zcg K H (.str x) (.type "str")
 | flt (x:UInt64):zcg K H (.flt x) (.type "float")
 | lst {a:Addr} {xs:List V} (e:H a=some (.lst xs)):zcg K H (.ref a) (.type "list")
 | frz {a:Addr} {o:Obj} {xs:List V} (e:H a=some (.frz o (.lst xs))):zcg K H (.ref a) (.type "list")
 | tup {a:Addr} {xs:List V} (e:H a=some (.tup xs)):zcg K H (.ref a) (.type "tuple")
 | dK {a:Addr} {kvs:List (Key×V)} (e:H a=some (.dK kvs)):zcg K H (.ref a) (.type "dict")
 | dT {a:Addr} {kvs:List (List Key×V)} (e:H a=some (.dT kvs)):zcg K H (.ref a) (.type "dict")
 | ins {a C dx:Addr} {fs:List (Str×V)} (e:H a=some (.ins C dx fs)) (cl:Cls K C) (ha:PySem.W.findIn K (.ref C) "__class__"=some (some (.builtin "object.__class__")))
   (hn:PySem.W.specialIn K (.builtin "object.__class__") "__get__"=some (some (.builtin "getset_descriptor.__get__"))) (htk:PySem.W.takesIn K (.builtin "object.__class__")=some true)
   (hm:PySem.W.mroIn K C (.type "object")=some true):zcg K H (.ref a) (.ref C)
theorem zuE {x:V}{u t:Value}(I:Inv X pins σ H s)(rx:zav x u)(ty:zcg X.K H x t)(e:PySem.W.kitOne X.K t c=some b)(h:∀tk,Q (.bool b) { s with toks:=tk }):
  wpAny (model X.prog X.w) A (call (.builtin "isinstance") [u,c]) Q E s:=by
 cases ty with
 | non=>cases (show u=Value.none from rx); exact PySem.W.kia_one PySem.W.kitx_none I.kIn True.intro e (fun z=>nomatch z) h
 | bl y=>cases (show u=Value.bool y from rx); exact PySem.W.kia_one PySem.W.kitx_bool I.kIn True.intro e (fun z=>nomatch z) h
 | int i=>obtain⟨t,q⟩:=(show ∃t,u=Value.int i t from rx); cases q; exact PySem.W.kia_one PySem.W.kitx_int I.kIn True.intro e (fun z=>nomatch z) h
 | str y=>obtain⟨t,q⟩:=(show ∃t,u=Value.str y t from rx); cases q; exact PySem.W.kia_one PySem.W.kitx_str I.kIn True.intro e (fun z=>nomatch z) h
 | flt y=>obtain⟨t,q⟩:=(show ∃t,u=Value.float y t from rx); cases q; exact PySem.W.kia_one PySem.W.kitx_float I.kIn True.intro e (fun z=>nomatch z) h
 | @lst a xs ea=>
  cases (show u=Value.ref a from rx)
  obtain⟨_,_,n,_,h1⟩:=(show zbx X.prog X.w H s.heap a (.lst xs) from I.hok a _ ea)
  exact PySem.W.kia_one PySem.W.kitx_list I.kIn ⟨_,h1,rfl⟩ e (fun z=>nomatch z) h
 | @frz a ob xs ea=>
  cases (show u=Value.ref a from rx)
  obtain⟨_,_,_,n,_,h1⟩:=(show zbx X.prog X.w H s.heap a (.frz ob (.lst xs)) from I.hok a _ ea)
  exact PySem.W.kia_one PySem.W.kitx_list I.kIn ⟨_,h1,rfl⟩ e (fun z=>nomatch z) h
 | @tup a xs ea=>
  cases (show u=Value.ref a from rx)
  obtain⟨_,_,_,p⟩:=(show zbx X.prog X.w H s.heap a (.tup xs) from I.hok a _ ea)
  obtain⟨o,h1,h2,_⟩:=p
  exact PySem.W.kia_one PySem.W.kitx_tuple I.kIn ⟨o,h1,h2⟩ e (fun z=>nomatch z) h
 | @dK a kvs ea=>
  cases (show u=Value.ref a from rx)
  obtain⟨_,_,vs,_,p⟩:=(show zbx X.prog X.w H s.heap a (.dK kvs) from I.hok a _ ea)
  obtain⟨o,es,ep,h1,h2,_⟩:=p
  exact PySem.W.kia_one PySem.W.kitx_dict I.kIn ⟨o,h1,h2.1⟩ e (fun z=>nomatch z) h
 | @dT a kvs ea=>
  cases (show u=Value.ref a from rx)
  obtain⟨_,_,xs,_,o,es,ep,h1,h2,_⟩:=(show zbx X.prog X.w H s.heap a (.dT kvs) from I.hok a _ ea)
  exact PySem.W.kia_one PySem.W.kitx_dict I.kIn ⟨o,h1,h2.1⟩ e (fun z=>nomatch z) h
 | @ins a C dx fs ea cl ha hn htk hm=>
  cases (show u=Value.ref a from rx)
  obtain⟨mA,O,_⟩:=zle I.hok ea
  obtain⟨od,J,_⟩:=O.look
  exact PySem.W.kia_one (PySem.W.kitx_own (cl.get _) cl.hd ha hn htk hm) I.kIn J e (fun z=>nomatch z) h
end
end L2

namespace L2
open PySem PySem.Spec PyProof.Rows

structure zaJ (k:Nat)(A:Around):Prop where
 hd:A.handled=none
 dp:A.depth + 3 * k + 5 < recursionLimit
 un:A.units + 16 * k + 200 < cLine
theorem zaJ.mono {j k:Nat}{A:Around}(r:zaJ k A)(h:j≤k):zaJ j A:=⟨r.hd,by have:=r.dp; omega,by have:=r.un; omega⟩
theorem zaJ.deeper {k:Nat}{A:Around}(r:zaJ (k + 1) A)(env:Env):zaJ k (A.deeper env):=
 ⟨r.hd,by have:=r.dp; show A.depth + 1 + 3 * k + 5 < _; omega,by have:=r.un; show A.units + 3 + 16 * k + 200 < _; omega⟩
theorem zaJ.in1 {k:Nat}{A:Around}(r:zaJ (k + 1) A):zaJ k A.in1:=
 ⟨r.hd,by have:=r.dp; show A.depth + 3 * k + 5 < _; omega,by have:=r.un; show A.units + 1 + 16 * k + 200 < _; omega⟩
theorem zxq {A:Around}{C:Addr}{us:List Value}{kw:List (Str×Value)}:(A.under (.builtin "type.__call__" ⟨.ref C::us,kw⟩)).depth=A.depth + 1:=by
 first | rfl | simp[Around.under,Code.weight,Code.isCreation,Code.isGuard,Code.isCaller,Code.frames,Code.isFrame,guardIds]
theorem zuu {A:Around}{C:Addr}{us:List Value}{kw:List (Str×Value)}:(A.under (.builtin "type.__call__" ⟨.ref C::us,kw⟩)).units=A.units + 1:=by
 first | rfl | simp[Around.under,Code.cUnits,Code.frames,Code.isFrame]
theorem zaJ.make {k:Nat}{A:Around}(r:zaJ (k + 1) A)(C:Addr)(us:List Value)(kw:List (Str×Value)):zaJ k (A.under (.builtin "type.__call__" ⟨.ref C::us,kw⟩)):=
 ⟨r.hd,by have:=r.dp; rw[zxq]; omega,by have:=r.un; rw[zuu]; omega⟩
theorem zaJ.depth {k:Nat}{A:Around}(r:zaJ k A):A.depth < recursionLimit:=by have:=r.dp; omega
theorem zaJ.units {k:Nat}{A:Around}(r:zaJ k A):A.units + 64 < cLine:=by have:=r.un; omega
def tNil:TA:=fun _ H Q=>Q [] H
def tCons (ta:TE)(tr:TA):TA:=fun σ H Q=>ta σ H fun x H1=>tr σ H1 fun xs H2=>Q (x::xs) H2
section
variable {X:Cx}{e:Expr}{es:List Expr}{te:TE}{t:TA}{pos:Pos}
theorem ziH:PA X [] tNil:=fun _ _ _ _ H Q I h=>Calls.spliced_nil ⟨[],H,I,.nil,h⟩
theorem zft (ha:PE X e te)(hr:PA X es t)(hs:starEach (e::es) X.env=(false,eval e X.env)::starEach es X.env:=by rfl):PA X (e::es) (tCons te t):=by
 intro pos pins s σ H Q I h
 rw[hs]
 show wpAny _ _ (spliced ((false,eval e X.env)::backTo pos (starEach es X.env))) _ _ s
 refine Calls.spliced_cons (thn (ha pins s σ H _ I h) fun u s1 ⟨x,H1,I1,r1,q1⟩=>?_)
 exact thn (hr pos pins s1 σ H1 _ I1 q1) fun us s2 ⟨xs,H2,I2,r2,q2⟩=>⟨x::xs,H2,I2,.cons r1 r2,q2⟩

def tTup (t:TA):TE:=fun σ H Q=>t σ H fun xs H1=>xs.length≤sizeLine∧∀p,H1 p=none→Q (.ref p) (upd H1 p (.tup xs))
def tLst (t:TA):TE:=fun σ H Q=>t σ H fun xs H1=>xs.length≤sizeLine∧∀p,H1 p=none→Q (.ref p) (upd H1 p (.lst xs))
theorem zv8 {x1}(h:PA X es t):PE X (.Tuple es x1 pos) (tTup t):=by
 intro pins s σ H Q I hq
 refine wpAny_Tuple_spliced (thn (h pos pins s σ H _ I hq) fun us s1 ⟨xs,H1,I1,r,z,q⟩=>⟨by rw[← r.length]; exact z,?_⟩)
 have hf:H1 s1.heap.objs.size=none:=I1.hok.fresh (Nat.le_refl _)
 refine⟨.ref s1.heap.objs.size,upd H1 s1.heap.objs.size (.tup xs),I1.laid (t':=s1.toks) (fun b u e=>Heap.get?_push_of_some _ e) (Nat.le_refl _) ?_,rfl,q _ hf⟩
 exact⟨z,us,r,⟨_,Heap.get?_push_size _ rfl,rfl,_,rfl⟩⟩
theorem zuV (h:PA X es t):PE X (.List es pos) (tLst t):=by
 intro pins s σ H Q I hq
 refine wpAny_List_spliced (thn (h pos pins s σ H _ I hq) fun us s1 ⟨xs,H1,I1,r,z,q⟩=>⟨by rw[← r.length]; exact z,?_⟩)
 have hf:H1 s1.heap.objs.size=none:=I1.hok.fresh (Nat.le_refl _)
 refine⟨.ref s1.heap.objs.size,upd H1 s1.heap.objs.size (.lst xs),I1.laid (t':=s1.toks) (fun b u e=>Heap.get?_push_of_some _ e) (Nat.le_refl _) ?_,rfl,q _ hf⟩
 exact⟨z,us,0,r,Heap.get?_push_size _ rfl⟩
end

abbrev Sp:=List V→Hp→VK→XK→Prop
abbrev CXT:=List Env→Hp→Shared→XK→Value→Shared→Prop

structure zcI (P:Program)(w:World)(K:PySem.W.Frag)(mg:Str→Option Value)(base:Heap)(A:Around)(outer:List Env)(s:Shared)(H:Hp):Prop where
 frames:A.frames=some outer
 mod:Mod K mg base
 bs:∀b o,base.get? b=some o→s.heap.get? b=some o∧H b=none
 bsz:base.objs.size≤s.heap.objs.size
 funs:s.heap.FunFrames base outer
 frf:∀b∈frs outer,H b=none
 hok:HOk P w H s.heap
 bare:AllBare s.gens
def CE (outer:List Env)(P:Program)(w:World)(H:Hp)(s:Shared)(Q:VK)(u:Value)(s':Shared):Prop:=
 ∃v H',s'.os=s.os∧AllBare s'.gens∧Un (frs outer) [] H H' s.heap s'.heap∧HOk P w H' s'.heap∧zav v u∧Q v H'
def CR (CX:CXT)(outer:List Env)(P:Program)(w:World)(H:Hp)(s:Shared)(Q:VK)(E:XK)(r:Result)(s':Shared):Prop:=
 match r with
 | .ok (.ret u)=>CE outer P w H s Q u s'
 | .ok _=>False
 | .error e=>CX outer H s E e s'
structure zbb (P:Program)(w:World)(K:PySem.W.Frag)(mg:Str→Option Value)(base:Heap)(CX:CXT)(k:Nat)(f:Addr)(fd:FuncData)(ps:List Str)(sp:Sp):Prop where
 len:∀vs H Q E,sp vs H Q E→vs.length=ps.length
 run:∀(A:Around) (outer:List Env) (s:Shared) (H:Hp) (args:Args) (us:List Value) (vs:List V) (Q:VK) (E:XK),zaJ k A→zcI P w K mg base A outer s H→BindsTo s fd args (ps.zip us)→zat vs us→sp vs H Q E→
  codeAny (model P w) A (.call (.ref f) args) (CR CX outer P w H s Q E) s
theorem zbb.mono {P:Program}{w:World}{K:PySem.W.Frag}{mg:Str→Option Value}{base:Heap}{CX:CXT}{j k:Nat}{f:Addr}{fd:FuncData}{ps:List Str}{sp:Sp}(F:zbb P w K mg base CX j f fd ps sp)(h:j≤k):
  zbb P w K mg base CX k f fd ps sp:=⟨F.len,fun A outer s H args us vs Q E hr=>F.run A outer s H args us vs Q E (hr.mono h)⟩
theorem zbb.imp {P:Program}{w:World}{K:PySem.W.Frag}{mg:Str→Option Value}{base:Heap}{CX:CXT}{k:Nat}{f:Addr}{fd:FuncData}{ps:List Str}{sp sp':Sp}(F:zbb P w K mg base CX k f fd ps sp)
  (h:∀vs H Q E,sp' vs H Q E→sp vs H Q E):zbb P w K mg base CX k f fd ps sp':=
 ⟨fun vs H Q E q=>F.len vs H Q E (h _ _ _ _ q),fun A outer s H args us vs Q E hr he hb hv hs=>F.run A outer s H args us vs Q E hr he hb hv (h _ _ _ _ hs)⟩

theorem zcI.make {P:Program}{w:World}{K:PySem.W.Frag}{mg:Str→Option Value}{base:Heap}{A:Around}{outer:List Env}{s:Shared}{H:Hp}(e:zcI P w K mg base A outer s H)(C:Addr)(us:List Value)(kw:List (Str×Value)):
  zcI P w K mg base (A.under (.builtin "type.__call__" ⟨.ref C::us,kw⟩)) outer s H:=⟨by first | exact e.frames | (simpa [Around.under,Code.envs,Code.isFrame,pushEnvs] using e.frames),e.mod,e.bs,e.bsz,e.funs,e.frf,e.hok,e.bare⟩
theorem zcI.in1 {P:Program}{w:World}{K:PySem.W.Frag}{mg:Str→Option Value}{base:Heap}{A:Around}{outer:List Env}{s:Shared}{H:Hp}(e:zcI P w K mg base A outer s H):
  zcI P w K mg base A.in1 outer s H:=⟨e.frames,e.mod,e.bs,e.bsz,e.funs,e.frf,e.hok,e.bare⟩

section
variable {X:Cx}{pins:List (Addr×Obj)}{σ:St}{H:Hp}{s s':Shared}
theorem Inv.env0 (I:Inv X pins σ H s):zcI X.prog X.w X.K X.mg X.base X.A X.stack s H:=
 ⟨I.ok.frames,I.ok.mod,I.bs,Nat.le_trans I.ok.bsz I.sz,I.stack,I.stkFree,I.hok,I.bare⟩
theorem Inv.after {Q:VK}{u:Value}(I:Inv X pins σ H s)(h:CE X.stack X.prog X.w H s Q u s'):EP X pins σ Q u s':=by
 obtain⟨v,H',os,bare,un,hok,r,q⟩:=h
 obtain⟨hh,g,d,t,os'⟩:=s'
 obtain rfl:os'=s.os:=os
 exact⟨v,H',I.call (h':=hh) (g':=g) (d':=d) (t':=t) (ch:=[]) un hok bare (fun b z=>absurd z (by simp)),r,q⟩
end

def tMake (C:Addr)(sp:Sp)(dvs:List V)(E:XK)(t:TA):TE:=fun σ H Q=>t σ H fun vs H1=>∀x dx,H1 x=none→H1 dx=none→dx≠x→
 sp (.ref x::(vs++dvs)) (upd (upd H1 dx (.own x)) x (.ins C dx [])) (fun v H2=>v=.non∧Q (.ref x) H2) E

def zbM (K:PySem.W.Frag)(fd:FuncData)(ps:List Str)(ds:List Value):Prop:=
 ∀(s:Shared) (us:List Value),K.In s.heap→(us++ds).length=ps.length→BindsTo s fd ⟨us,[]⟩ (ps.zip (us++ds))
theorem zbM.all {K:PySem.W.Frag}{fd:FuncData}{ps:List Str}(h:∀us:List Value,us.length=ps.length→bindArgs fd ⟨us,[]⟩=pure (ps.zip us)):zbM K fd ps []:=fun s us _ hl=>by
 rw[List.append_nil] at hl ⊢
 exact .of_eq (h us hl)

def ziZ (CX:CXT)(X:Cx)(E:XK):Prop:=∀(pins:List (Addr×Obj)) (σ:St) (H:Hp) (s:Shared) (e:Value) (s':Shared),Inv X pins σ H s→CX X.stack H s E e s'→X.xe e s'

section
variable {X:Cx}{CX:CXT}{k:Nat}{f C:Addr}{fd:FuncData}{ps:List Str}{sp:Sp}{dvs:List V}{ds:List Value}{E:XK}{x m:Str}{p pos apos:Pos}{e o:Expr}{es:List Expr}{ta:TE}{t:TA}

structure Mk (K:PySem.W.Frag)(C f:Addr):Prop where
 makes:PySem.W.makesIn K C=true
 init:PySem.W.findIn K (.ref C) "__init__"=some (some (.ref f))
 fn:PySem.W.isFn K (.ref f)=true
 kp:PySem.W.keepIn K (.ref C)=true

theorem zwB {pins:List (Addr×Obj)}{σ:St}{H:Hp}{s:Shared}{Q:VK}{us:List Value}{vs:List V}(M:Mk X.K C f)(F:zbb X.prog X.w X.K X.mg X.base CX k f fd ps sp)(hr:zaJ (k + 1) X.A)(hb:zbM X.K fd ps ds)(hd:zat dvs ds)
  (hx:ziZ CX X E)(I:Inv X pins σ H s)(r:zat vs us)
  (h:∀x dx,H x=none→H dx=none→dx≠x→sp (.ref x::(vs++dvs)) (upd (upd H dx (.own x)) x (.ins C dx [])) (fun v H2=>v=.non∧Q (.ref x) H2) E):
  wpAny (model X.prog X.w) X.A (call (.ref C) us) (EP X pins σ Q) X.xe s:=by
 have hq:=h (s.heap.objs.size + 1) s.heap.objs.size (I.hok.fresh (Nat.le_succ _)) (I.hok.fresh (Nat.le_refl _)) (Nat.ne_of_lt (Nat.lt_succ_self _))
 have I2:=Inv.made (C:=C) I
 have r2:zat (V.ref (s.heap.objs.size + 1)::(vs++dvs)) (Value.ref (s.heap.objs.size + 1)::(us++ds)):=.cons rfl (r.append hd)
 have hl:(Value.ref (s.heap.objs.size + 1)::us++ds).length=ps.length:=by
  have e:=r2.length
  rw[F.len _ _ _ _ hq] at e
  exact e.symm
 refine wpAny_call (zw0 (f:=f) I.kIn M.makes M.init (beq_iff_eq.mp M.fn) (codeAny_mono (F.run _ X.stack _ _ ⟨Value.ref (s.heap.objs.size + 1)::us,[]⟩ (Value.ref (s.heap.objs.size + 1)::(us++ds)) _ _ E (hr.make C us [])
  (I2.env0.make C us []) (hb _ (Value.ref (s.heap.objs.size + 1)::us) I2.kIn hl) r2 hq) fun r s' hq'=>?_))
 cases r with
 | error e=>exact hx pins σ _ _ e s' I2 hq'
 | ok fl=>
  cases fl with
  | ret u=>
   obtain⟨v,H',I3,rv,ev,q3⟩:=I2.after hq'
   subst ev
   exact⟨rv,⟨V.ref (s.heap.objs.size + 1),H',I3,rfl,q3⟩⟩
  | next=>exact False.elim hq'
  | brk=>exact False.elim hq'
  | cont=>exact False.elim hq'
theorem zxS (M:Mk X.K C f)(F:zbb X.prog X.w X.K X.mg X.base CX k f fd ps sp)(hr:zaJ (k + 1) X.A)(hg:Gl X x)(hm:X.mg x=some (.ref C))(hb:zbM X.K fd ps ds)(hd:zat dvs ds)(hx:ziZ CX X E)
  (ha:PA X (e::es) t)(hdb:(x == ("__debug__":Str))=false:=by decide)(he:starEach (e::es) X.env=(false,eval e X.env)::starEach es X.env:=by rfl)(hpl:(backTo pos (starEach es X.env)).any (·.1)=false:=by rfl):
  PE X (.Call (.Name x p) (e::es) [] pos) (tMake C sp dvs E t):=by
 intro pins s σ H Q I h
 refine wpAny_Call_Name_kw (zpT I hg hm ?_ hdb)
 refine PySem.W.callWith_K (h₀:=X.base) I.ok.mod.kin M.kp (thn (ha pos pins s σ H _ I h) fun us s1 ⟨vs,H1,I1,r,q⟩=>⟨I1.kIn,?_⟩) he hpl
 exact zwB M F hr hb hd hx I1 r q
end

section
variable {X:Cx}{CX:CXT}{k:Nat}{f C:Addr}{fd:FuncData}{ps ks:List Str}{sp:Sp}{E:XK}{x m:Str}{p pos apos kpos:Pos}{e o:Expr}{es:List Expr}{kws:List Keyword}{te ta:TE}{t tk:TA}{nm:Option Str}
structure KBinds (K:PySem.W.Frag)(fd:FuncData)(ps ks:List Str)(g:List Value→List Value→List Value)(gV:List V→List V→List V):Prop where
 to:∀(s:Shared) (us ws:List Value),K.In s.heap→(g us ws).length=ps.length→BindsTo s fd ⟨us,ks.zip ws⟩ (ps.zip (g us ws))
 rel:∀ {vs:List V} {us:List Value} {zs:List V} {ws:List Value},zat vs us→zat zs ws→zat (gV vs zs) (g us ws)
variable {g:List Value→List Value→List Value}{gV:List V→List V→List V}
end

structure zaw (N P:List Str)(sc:Scope):Prop where
 kind:sc.kind=.function
 co:sc.isCoroutine=false
 gen:sc.isGenerator=false
 nd:N.Nodup
 pre:N.take P.length=P
 par:∀x∈P,sc.names.lookup x=some .local∨sc.names.lookup x=some .cell
 nofree:∀y∈sc.names,y.2≠.free

theorem zq8 {kindOf:Str→Option NameKind}{x:Str}:∀ {binds:List (Str×Value)} {m:Str→Option Value},(∀v,(x,v) ∉ binds)→bindL kindOf binds m x=m x
 | [],_,_=>rfl
 | (n,v)::r,m,h=>by
  unfold bindL
  rw[zq8 fun w hw=>h w (List.mem_cons_of_mem _ hw)]
  split
  ·have:x≠n:=by rintro rfl; exact h v List.mem_cons_self
   simp[this]
  ·rfl
theorem zpS {kindOf:Str→Option NameKind}{x:Str}:∀ {binds:List (Str×Value)} {m:Str→Option Value},(∀v,(x,v) ∉ binds)→bindC kindOf binds m x=m x
 | [],_,_=>rfl
 | (n,v)::r,m,h=>by
  unfold bindC
  rw[zpS fun w hw=>h w (List.mem_cons_of_mem _ hw)]
  split
  ·rfl
  ·have:x≠n:=by rintro rfl; exact h v List.mem_cons_self
   simp[this]
theorem zqM {kindOf:Str→Option NameKind}{x:Str}{v:Value}:∀ {P:List Str} {vs:List Value} {i:Nat} {m:Str→Option Value},P.Nodup→P[i]?=some x→vs[i]?=some v→kindOf x=some .local→
  bindL kindOf (P.zip vs) m x=some v
 | [],_,_,_,_,h,_,_=>by simp at h
 | _::_,[],_,_,_,_,h,_=>by simp at h
 | p::P,w::vs,0,m,nd,h1,h2,hk=>by
  simp at h1 h2; subst h1; subst h2
  show bindL kindOf ((p,w)::P.zip vs) m p=_
  unfold bindL
  rw[zq8 fun v hv=>(List.nodup_cons.mp nd).1 (List.of_mem_zip hv).1,if_pos hk]
  simp
 | p::P,w::vs,i + 1,m,nd,h1,h2,hk=>by
  show bindL kindOf ((p,w)::P.zip vs) m x=_
  unfold bindL
  exact zqM (i:=i) (List.nodup_cons.mp nd).2 (by simpa using h1) (by simpa using h2) hk
theorem zo9 {kindOf:Str→Option NameKind}{x:Str}{v:Value}:∀ {P:List Str} {vs:List Value} {i:Nat} {m:Str→Option Value},P.Nodup→P[i]?=some x→vs[i]?=some v→kindOf x≠some .local→
  bindC kindOf (P.zip vs) m x=some v
 | [],_,_,_,_,h,_,_=>by simp at h
 | _::_,[],_,_,_,_,h,_=>by simp at h
 | p::P,w::vs,0,m,nd,h1,h2,hk=>by
  simp at h1 h2; subst h1; subst h2
  show bindC kindOf ((p,w)::P.zip vs) m p=_
  unfold bindC
  rw[zpS fun v hv=>(List.nodup_cons.mp nd).1 (List.of_mem_zip hv).1,if_neg hk]
  simp
 | p::P,w::vs,i + 1,m,nd,h1,h2,hk=>by
  show bindC kindOf ((p,w)::P.zip vs) m x=_
  unfold bindC
  exact zo9 (i:=i) (List.nodup_cons.mp nd).2 (by simpa using h1) (by simpa using h2) hk

def zcH (N:List Str)(vs:List V):St:=vs.map some++List.replicate (N.length - vs.length) none

def zd8 (CX:CXT)(P:Program)(w:World)(K:PySem.W.Frag)(mg:Str→Option Value)(base:Heap)(N:List Str)(qual:Str)(scope:Scope)(f:Addr)(cd:Value)(A:Around)(outer:List Env)(s:Shared)(H:Hp)(E:XK):Cx where
 prog:=P
 w:=w
 K:=K
 mg:=mg
 base:=base
 A:=A.deeper (envOfC qual scope s.heap.objs.size f cd)
 N:=N
 s₀:=s
 H₀:=H
 env:=envOfC qual scope s.heap.objs.size f cd
 outer:=outer
 stack:=envOfC qual scope s.heap.objs.size f cd::outer
 ex:=[]
 calm:=true
 fn:=fun _=>true
 pn:=[]
 xe:=fun e s'=>wpAny (model P w) (A.deeper (envOfC qual scope s.heap.objs.size f cd)) (leaving (envOfC qual scope s.heap.objs.size f cd) e) (fun _ s''=>CX outer H s E e s'') (fun e' s''=>CX outer H s E e' s'') s'

theorem zo0 {sc:Scope}{n:Nat}{x:Str}(h:sc.names.lookup x=some .cell):∃c,(cellsFrom n sc.names []).lookup x=some c:=by
 have q:=PySem.W.cellsFrom_some sc.names n [] (.inl h)
 exact Option.isSome_iff_exists.mp q

theorem zvu {CX:CXT}{P:Program}{w:World}{K:PySem.W.Frag}{mg:Str→Option Value}{base:Heap}{N ps:List Str}{qual:Str}{scope:Scope}{f:Addr}{cd:Value}{A:Around}{outer:List Env}{s s1:Shared}{H:Hp}{E:XK}{us:List Value}{vs:List V}
  (S:zaw N ps scope)(hd:A.handled=none)(e0:zcI P w K mg base A outer s H)(hl:vs.length=ps.length)(r:zat vs us)
  (x:InCallC s s.heap.objs.size (bindL (envOfC qual scope s.heap.objs.size f cd).kindOf (ps.zip us) fun _=>none) (cellsFrom (s.heap.objs.size + 1) scope.names []) (bindC (envOfC qual scope s.heap.objs.size f cd).kindOf (ps.zip us) fun _=>none) s1):
  Inv (zd8 CX P w K mg base N qual scope f cd A outer s H E) [] (zcH N vs) H s1:=by
 have hpl:ps.length≤N.length:=by have:=congrArg List.length S.pre; rw[List.length_take] at this; omega
 obtain⟨h1,tk,rfl,hk⟩:=x.done
 have noA:∀b:Addr,b ∉ (zd8 CX P w K mg base N qual scope f cd A outer s H E).ex:=fun b z=>absurd (show b∈([]:List Addr) from z) (by simp)
 refine⟨⟨e0.mod,S.kind,rfl,rfl,Nat.le_refl _,fun y z c h1 h2=>?_,fun y hy=>?_,fun y c _ h=>?_,fun _=>hd,Around.frames_deeper e0.frames,.inr ⟨rfl,rfl⟩,fun b z=>absurd z (noA b),e0.bs,e0.bsz,fun b _ _=>noA b,fun b z=>absurd z (noA b),e0.funs,e0.frf⟩,
  rfl,e0.bare,Un.kept hk,⟨_,x.toInCall.ns,fun i y v h1 h2 h3=>?_⟩,fun y c h=>⟨_,x.cell y c h⟩,e0.hok.fresh (Nat.le_refl _),fun y c h=>?_,fun p hp=>absurd (show p∈([]:List (Addr×Obj)) from hp) (by simp),e0.hok.kept hk,?_⟩
 ·exact name_of_addr x.apart (PySem.mem_of_lookup h1) (PySem.mem_of_lookup h2)
 ·have hy:scope.names.lookup y=some .cell∨scope.names.lookup y=some .free:=hy
  rcases hy with hy | hy
  ·exact zo0 hy
  ·exact absurd rfl (S.nofree _ (PySem.mem_of_lookup hy))
 ·exact Nat.le_of_lt (x.above y c (PySem.mem_of_lookup h))
 ·have hi:i < vs.length:=by
   unfold zcH at h2
   by_cases hi:i < vs.length
   ·exact hi
   ·rw[List.getElem?_append_right (by simpa using hi)] at h2
    rw[List.getElem?_replicate] at h2
    split at h2 <;> cases h2
  have ha:vs[i]?=some v:=by
   unfold zcH at h2
   rw[List.getElem?_append_left (by simpa using hi),List.getElem?_map] at h2
   cases e:vs[i]? with
   | none=>rw[e] at h2; cases h2
   | some a=>rw[e] at h2; cases h2; rfl
  obtain⟨u,hu,rv⟩:=r.get ha
  have hp:ps[i]?=some y:=by
   rw[← S.pre,List.getElem?_take_of_lt (by omega)]; exact h1
  have ndP:ps.Nodup:=by rw[← S.pre]; exact S.nd.sublist (List.take_sublist _ _)
  refine⟨u,rv,?_⟩
  rcases S.par y (List.mem_of_getElem? hp) with k | k
  ·exact .inl ⟨k,zqM ndP hp hu k⟩
  ·obtain⟨c,e⟩:=zo0 (n:=s.heap.objs.size + 1) k
   refine .inr ⟨.inl k,c,e,?_⟩
   have q:=x.cell y c e
   rw[zo9 ndP hp hu (by show scope.names.lookup y≠_; rw[k]; decide)] at q
   exact q
 ·exact e0.hok.fresh (Nat.le_of_lt (x.above y c (PySem.mem_of_lookup h)))
 ·unfold zcH
  show _=N.length
  rw[List.length_append,List.length_map,List.length_replicate]
  omega

theorem zpg {CX:CXT}{P:Program}{w:World}{K:PySem.W.Frag}{mg:Str→Option Value}{base:Heap}{k:Nat}{f:Addr}{name qual:Str}{params:Arguments}{body:List Stmt}{scope:Scope}{dV kV doc pm cdv ct oc:Value}{an od:Option Addr}
  {osl:Array (Option Value)}{N ps:List Str}{sp:Sp}(lk:K.lookup f=some ⟨oc,od,.func (PySem.W.fnOf name qual params body scope dV kV doc pm an cdv ct),osl⟩)(hcd:PySem.W.codeIn K cdv qual=true)(S:zaw N ps scope)
  (len:∀vs H Q E,sp vs H Q E→vs.length=ps.length)
  (hbody:∀(A:Around) (outer:List Env) (s:Shared) (H:Hp) (vs:List V) (Q:VK) (E:XK),zaJ k (A.deeper (envOfC qual scope s.heap.objs.size f cdv))→sp vs H Q E→
   ∃t,PSs (zd8 CX P w K mg base N qual scope f cdv A outer s H E) body t∧t { nx:=fun _ H'=>Q .non H',rt:=Q } (zcH N vs) H):
  zbb P w K mg base CX (k + 1) f (PySem.W.fnOf name qual params body scope dV kV doc pm an cdv ct) ps sp:=by
 refine⟨len,fun A outer s H args us vs Q E hr e0 hb r hsp=>?_⟩
 have hl:=len _ _ _ _ hsp
 have KX:K.In s.heap:=e0.mod.kin.keeps fun b o e=>(e0.bs b o e).1
 have lim:s.heap.NoLimit:=e0.mod.nolimit.keeps fun b o e=>(e0.bs b o e).1
 have hkind:∀y∈ps.zip us,scope.names.lookup y.1=some .local∨(scope.names.lookup y.1=some .cell∧((cellsFrom (s.heap.objs.size + 1) scope.names []).lookup y.1).isSome=true):=fun ⟨n,v⟩ hy=>by
  rcases S.par n (List.of_mem_zip hy).1 with q | q
  ·exact .inl q
  ·exact .inr ⟨q,PySem.W.cellsFrom_some _ _ _ (.inl q)⟩
 refine codeAny_call_function hr.depth (KX _ _ lk) rfl S.co S.gen rfl (PySem.W.codeRec_of KX hcd) (hb _ _ _ _ ?_)
 refine wpAny_newFunctionEnv_cells S.kind hkind fun env he s1 x=>?_
 subst he
 refine⟨lim.keeps x.toInCall.keep,codeAny_func ?_⟩
 obtain⟨t,ht,hq⟩:=hbody A outer s H vs Q E (hr.deeper _) hsp
 have I:Inv (zd8 CX P w K mg base N qual scope f cdv A outer s H E) [] (zcH N vs) H s1:=zvu S hr.hd e0 hl r x
 refine wpAny_mono (ht [] s1 (zcH N vs) H _ I hq) (fun fl s' hs=>?_) fun e s' hs=>hs
 have fin:∀ {σ':St} {H':Hp} {v:V} {u:Value},Inv (zd8 CX P w K mg base N qual scope f cdv A outer s H E) [] σ' H' s'→zav v u→Q v H'→CE outer P w H s Q u s':=
  fun {σ' H' v u} J rv q=>⟨v,H',J.os,J.bare,J.base,J.hok,rv,q⟩
 cases fl with
 | ret u=>
  obtain⟨v,σ',H',J,rv,q⟩:=hs
  exact fin J rv q
 | next=>
  obtain⟨σ',H',J,q⟩:=hs
  exact fin (v:=V.non) (u:=Value.none) J rfl q
 | brk=>
  obtain⟨_,_,_,q⟩:=hs
  exact False.elim q
 | cont=>
  obtain⟨_,_,_,q⟩:=hs
  exact False.elim q
end L2

namespace L2
open PySem PySem.Spec PyProof.Rows
section
variable {X:Cx}{x:Str}{p pos:Pos}{e:Expr}{es:List Expr}{t:TA}{id T:String}{r:List V→Hp→VK→Prop}

def tCB (r:List V→Hp→VK→Prop)(t:TA):TE:=fun σ H Q=>t σ H fun vs H1=>r vs H1 Q
theorem zmR (hc:zbd X (.builtin id) r)(hg:Gl X x)(hm:X.mg x=none)(hv:bootBuiltins x=some (.builtin id))(ha:PA X (e::es) t)(hn:x≠"__name__":=by decide)(hdb:(x == ("__debug__":Str))=false:=by decide)
  (he:starEach (e::es) X.env=(false,eval e X.env)::starEach es X.env:=by rfl)(hpl:(backTo pos (starEach es X.env)).any (·.1)=false:=by rfl):PE X (.Call (.Name x p) (e::es) [] pos) (tCB r t):=by
 intro pins s σ H Q I h
 refine wpAny_Call_Name_kw (zfB I hg hm hv ?_ hn hdb)
 exact PyProof.Rows.callWith_builtin1 (thn (ha pos pins s σ H _ I h) fun us s1 ⟨vs,H1,I1,r1,q1⟩=>hc pins s1 σ H1 vs us Q I1 r1 q1) he hpl
theorem zss (hc:zbd X (.type T) r)(hg:Gl X x)(hm:X.mg x=none)(hv:bootBuiltins x=some (.type T))(ha:PA X (e::es) t)(hn:x≠"__name__":=by decide)(hdb:(x == ("__debug__":Str))=false:=by decide)
  (he:starEach (e::es) X.env=(false,eval e X.env)::starEach es X.env:=by rfl)(hpl:(backTo pos (starEach es X.env)).any (·.1)=false:=by rfl):PE X (.Call (.Name x p) (e::es) [] pos) (tCB r t):=by
 intro pins s σ H Q I h
 refine wpAny_Call_Name_kw (zfB I hg hm hv ?_ hn hdb)
 exact PyProof.Rows.callWith_type1 (thn (ha pos pins s σ H _ I h) fun us s1 ⟨vs,H1,I1,r1,q1⟩=>hc pins s1 σ H1 vs us Q I1 r1 q1) he hpl
end
end L2

namespace HT
open PySem PyProof.Rows

section
open PySem.SeqAt
open PySem.AutoSeq1 (wpAny_loadPart')
open PySem.MeetsSeq PySem.MeetsSeq2 PySem.MeetsSeq3

end

section
variable {prog:Program}{w:World}{A:Around}{E:Value→Shared→Prop}{s:Shared}

def sIx (n d:Nat):Option Int→Nat
 | none=>d
 | some v=>if v < 0 then (v + (n:Int)).toNat else min v.toNat n
theorem sIx_none (n d:Nat):sIx n d none=d:=rfl
theorem sIx_nat (n d k:Nat):sIx n d (some (k:Int))=min k n:=by
 show (if (k:Int) < 0 then ((k:Int) + (n:Int)).toNat else min (k:Int).toNat n)=min k n
 rw[if_neg (by omega),Int.toNat_natCast]
end
end HT

namespace L2
open PySem PySem.Spec PyProof.Rows

abbrev TO:=St→Hp→(Option Int→Hp→Prop)→Prop
def PO (X:Cx)(e:Option Expr)(t:TO):Prop:=
 ∀(pins:List (Addr×Obj)) (s:Shared) (σ:St) (H:Hp) (Q:Option Int→Hp→Prop),Inv X pins σ H s→t σ H Q→
  wpAny (model X.prog X.w) X.A (evalPart e X.env) (fun u s'=>∃o H',Inv X pins σ H' s'∧IsPart u o∧Q o H') X.xe s
def zxG:TO:=fun _ H Q=>Q none H
def tPart (t:TE):TO:=fun σ H Q=>t σ H fun x H1=>∃i,x=.int i∧Q (some i) H1

section
variable {X:Cx}{e:Expr}{te:TE}{lo hi:Option Expr}{tl th:TO}{pos p2:Pos}

theorem zw4:PO X none zxG:=by
 intro pins s σ H Q I h
 rw[evalPart_none]
 exact wpAny_pure ⟨none,H,I,.none,h⟩
theorem zxt (h:PE X e te):PO X (some e) (tPart te):=by
 intro pins s σ H Q I hw
 rw[evalPart_some]
 refine thn (h pins s σ H _ I hw) fun u s1 ⟨x,H1,I1,r1,q1⟩=>?_
 obtain⟨i,rfl,q⟩:=q1
 obtain⟨t,rfl⟩:=r1
 exact⟨some i,H1,I1,.int i t,q⟩

def SlR (X:Cx)(r:V→Option Int→Option Int→Hp→VK→Prop):Prop:=
 ∀(pins:List (Addr×Obj)) (s:Shared) (σ:St) (H:Hp) (x:V) (v vl vu:Value) (lo hi:Option Int) (sl:Addr) (Q:VK),Inv X pins σ H s→zav x v→s.heap.IsSliceOf sl vl vu .none→IsPart vl lo→IsPart vu hi→r x lo hi H Q→
  ∃T id,typeLookup (.type T) "__getitem__"=pure (some (.builtin id))∧s.TypeIs v T∧wpAny (model X.prog X.w) X.A (getItem v (.ref sl)) (EP X pins σ Q) X.xe s
theorem SlR.or {r r':V→Option Int→Option Int→Hp→VK→Prop}(h:SlR X r)(h':SlR X r'):SlR X (fun x lo hi H Q=>r x lo hi H Q∨r' x lo hi H Q):=by
 intro pins s σ H x v vl vu lo hi sl Q I rx hs pl pu q
 rcases q with q | q
 ·exact h pins s σ H x v vl vu lo hi sl Q I rx hs pl pu q
 ·exact h' pins s σ H x v vl vu lo hi sl Q I rx hs pl pu q
def tSl (r:V→Option Int→Option Int→Hp→VK→Prop)(te:TE)(tl th:TO):TE:=fun σ H Q=>te σ H fun x H1=>tl σ H1 fun l H2=>th σ H2 fun u H3=>r x l u H3 Q
theorem zws {r:V→Option Int→Option Int→Hp→VK→Prop}(hr:SlR X r)(he:PE X e te)(hl:PO X lo tl)(hu:PO X hi th):PE X (.Subscript e (.Slice lo hi none p2) pos) (tSl r te tl th):=by
 intro pins s σ H Q I h
 refine Subscript_ (thn (he pins s σ H _ I h) fun v s1 ⟨x,H1,I1,r1,q1⟩=>?_)
 refine wpAny_Slice (thn (hl pins s1 σ H1 _ I1 q1) fun vl s2 ⟨l,H2,I2,pl,q2⟩=>thn (hu pins s2 σ H2 _ I2 q2) fun vu s3 ⟨u,H3,I3,pu,q3⟩=>?_)
 rw[evalPart_none]
 refine wpAny_pure ?_
 have I4:Inv X pins σ H3 { s3 with heap:=s3.heap.push { cls:=.type "slice",data:=.fields #[vl,vu,.none] } }:=I3.kept (t':=s3.toks) fun b ob q=>Heap.get?_push_of_some _ q
 obtain⟨T,id,hT,ht,hg⟩:=hr pins { s3 with heap:=s3.heap.push { cls:=.type "slice",data:=.fields #[vl,vu,.none] } } σ H3 x v vl vu l u s3.heap.objs.size Q I4 r1 (Heap.IsSliceOf.new ..) pl pu q3
 show wpAny (model X.prog X.w) X.A (subscriptTail e (.Slice lo hi none p2) v (.ref s3.heap.objs.size)) (EP X pins σ Q) X.xe { s3 with heap:=s3.heap.push { cls:=.type "slice",data:=.fields #[vl,vu,.none] } }
 exact tail_any (ops:=[.ref s3.heap.objs.size,v]) ht hT hg (by with_unfolding_all rfl)

def zfE (xs:List V)(lo hi:Option Int):List V:=(xs.drop (HT.sIx xs.length 0 lo)).take (HT.sIx xs.length xs.length hi - HT.sIx xs.length 0 lo)
theorem ztC (xs:List V)(lo hi:Option Int):(zfE xs lo hi).length≤xs.length:=by
 unfold zfE
 rw[List.length_take,List.length_drop]
 omega
end
end L2

namespace L2
open PySem PySem.Spec PyProof.Rows

def ixN (n:Nat)(i:Int):Option Nat:=if 0≤i then (if i < n then some i.toNat else none) else if -(n:Int)≤i then some (i + n).toNat else none
def atI {α:Type}(xs:List α)(i:Int):Option α:=(ixN xs.length i).bind fun j=>xs[j]?
theorem zwg {n:Nat}{i:Int}{j:Nat}(h:ixN n i=some j):seqIndex? i n=some j∧j < n∧-(n:Int)≤i∧i < n:=by
 unfold ixN at h
 by_cases h0:0≤i
 ·rw[if_pos h0] at h
  by_cases h1:i < n
  ·rw[if_pos h1] at h
   have e:i.toNat=j:=Option.some.inj h
   exact⟨by rw[seqIndex_of h0 h1,e],by omega,by omega,h1⟩
  ·rw[if_neg h1] at h; cases h
 ·rw[if_neg h0] at h
  by_cases h1:-(n:Int)≤i
  ·rw[if_pos h1] at h
   have e:(i + n).toNat=j:=Option.some.inj h
   exact⟨by rw[seqIndex_neg (by omega) h1,e],by omega,h1,by omega⟩
  ·rw[if_neg h1] at h; cases h
theorem zp4 {α:Type}{xs:List α}{i:Int}{v:α}(h:atI xs i=some v):∃j,seqIndex? i xs.length=some j∧xs[j]?=some v∧j < xs.length∧-(xs.length:Int)≤i∧i < xs.length:=by
 unfold atI at h
 cases e:ixN xs.length i with
 | none=>rw[e] at h; cases h
 | some j=>
  rw[e] at h
  obtain⟨h1,h2,h3,h4⟩:=zwg e
  exact⟨j,h1,h,h2,h3,h4⟩
theorem zds {α:Type}{xs:List α}{j:Nat}{v:α}(h:xs[j]?=some v):atI xs (j:Int)=some v:=by
 have hj:j < xs.length:=(List.getElem?_eq_some_iff.mp h).1
 have e:ixN xs.length (j:Int)=some j:=by
  unfold ixN
  rw[if_pos (by omega),if_pos (by omega)]; simp
 unfold atI; rw[e]; exact h
def zof (b:Expr):Prop:=∀o i,subscripted b false o i=operate [o,i] (getItem o i)
def IxR (X:Cx)(r:R2):Prop:=
 ∀(value slice:Expr) (pins:List (Addr×Obj)) (s:Shared) (σ:St) (H:Hp) (x y:V) (v u:Value) (Q:VK),Inv X pins σ H s→zav x v→zav y u→r x y H Q→
  subscripted slice false v u=operate [v,u] (getItem v u)→wpAny (model X.prog X.w) X.A (subscriptTail value slice v u) (EP X pins σ Q) X.xe s
def MtR (X:Cx)(id:String)(r:V→List V→Hp→VK→Prop):Prop:=
 ∀(pins:List (Addr×Obj)) (s:Shared) (σ:St) (H:Hp) (x:V) (xs:List V) (v:Value) (us:List Value) (Q:VK),Inv X pins σ H s→zav x v→zat xs us→r x xs H Q→
  wpAny (model X.prog X.w) X.A (call (.builtin id) (v::us)) (EP X pins σ Q) X.xe s
section
variable {X:Cx}{a b:Expr}{ta tb:TE}{pos:Pos}
theorem IxR.or {r r':R2}(h:IxR X r)(h':IxR X r'):IxR X (fun x y H Q=>r x y H Q∨r' x y H Q):=by
 intro value slice pins s σ H x y v u Q I rx ry q hs
 rcases q with q | q
 ·exact h value slice pins s σ H x y v u Q I rx ry q hs
 ·exact h' value slice pins s σ H x y v u Q I rx ry q hs
theorem MtR.or {id:String}{r r':V→List V→Hp→VK→Prop}(h:MtR X id r)(h':MtR X id r'):MtR X id (fun x xs H Q=>r x xs H Q∨r' x xs H Q):=by
 intro pins s σ H x xs v us Q I rx rs q
 rcases q with q | q
 ·exact h pins s σ H x xs v us Q I rx rs q
 ·exact h' pins s σ H x xs v us Q I rx rs q
theorem pe_ix {r:R2}(hr:IxR X r)(ha:PE X a ta)(hb:PE X b tb)(hs:zof b):PE X (.Subscript a b pos) (tOp r ta tb):=by
 intro pins s σ H Q I h
 exact Subscript_ (binT ha hb I h fun v u s2 x y H2 I2 rx ry q=>hr a b pins s2 σ H2 x y v u Q I2 rx ry q (hs _ _))

def rIxL (K:PySem.W.Frag):R2:=fun x y H Q=>∃p xs i v,x=.ref p∧y=.int i∧SqL K H p xs∧atI xs i=some v∧Q v H
def rIxT (K:PySem.W.Frag):R2:=fun x y H Q=>∃p xs i v,x=.ref p∧y=.int i∧SqT K H p xs∧atI xs i=some v∧Q v H
theorem ztY:IxR X (rIxL X.K):=by
 intro value slice pins s σ H x y v u Q I rx ry h hs
 obtain⟨p,xs,i,z,rfl,rfl,hq,he,q⟩:=h
 cases rx
 obtain⟨t,rfl⟩:=ry
 obtain⟨its,r,pl,hz⟩:=I.list hq
 obtain⟨j,h1,h2,h3,h4,h5⟩:=zp4 he
 obtain⟨w,ew,rw'⟩:=r.get h2
 have hl:=r.length
 have hn:=zi7
 have fin:EP X pins σ Q w s:=⟨z,H,I,rw',q⟩
 by_cases h0:0≤i
 ·have hj:i.toNat=j:=by
   rw[seqIndex_of h0 h5] at h1
   exact Option.some.inj h1
  exact item_listR pl.isList h0 (by omega) (by rw[hj]; simpa using ew) fin hs
 ·have hj:(i + (its.toArray.size:Int)).toNat=j:=by
   rw[seqIndex_neg (by omega) h4] at h1
   rw[List.size_toArray,← hl]
   exact Option.some.inj h1
  exact subscriptTail_builtinR (x:=w) pl.isList.typeIs slot_list_getitem.lookup
   (wpAny_getItem_list_neg (Q:=fun r s'=>r=w∧EP X pins σ Q r s') pl.isList (by omega) (by rw[List.size_toArray] <;> omega) (by omega) (by rw[hj]; simpa using ew) ⟨rfl,fin⟩) hs
theorem ztJ:IxR X (rIxT X.K):=by
 intro value slice pins s σ H x y v u Q I rx ry h hs
 obtain⟨p,xs,i,z,rfl,rfl,hq,he,q⟩:=h
 cases rx
 obtain⟨t,rfl⟩:=ry
 obtain⟨its,r,pl,hz⟩:=I.tuple hq
 obtain⟨j,h1,h2,h3,h4,h5⟩:=zp4 he
 obtain⟨w,ew,rw'⟩:=r.get h2
 have hl:=r.length
 have hn:=zi7
 have fin:EP X pins σ Q w s:=⟨z,H,I,rw',q⟩
 exact subscriptTail_builtinR (x:=w) pl.typeIs slot_tuple_getitem.lookup
  (getItem_tuple (j:=j) (Q:=fun r s'=>r=w∧EP X pins σ Q r s') pl (by omega) (by omega) (by rw[List.size_toArray,← hl]; exact h1) (by simpa using ew) ⟨rfl,fin⟩) hs
theorem Inv.lst {pins:List (Addr×Obj)}{σ:St}{H:Hp}{s:Shared}{p:Addr}{xs:List V}(I:Inv X pins σ H s)(h:H p=some (.lst xs)):
  ∃(its:List Value) (n:Nat),zat xs its∧s.heap.get? p=some { cls:=.type "list",data:=.seq its.toArray n }∧xs.length≤sizeLine:=by
 obtain⟨z,its,n,r,e⟩:=I.hok p _ h
 exact⟨its,n,r,e,z⟩
theorem zri (lo hi:Option Int)(n:Nat):(sliceBounds lo hi none n).1=((HT.sIx n 0 lo:Nat):Int)∧(sliceBounds lo hi none n).2.1=((HT.sIx n n hi:Nat):Int)∧(sliceBounds lo hi none n).2.2=1:=by
 refine⟨?_,?_,rfl⟩
 ·cases lo with
  | none=>simp[sliceBounds,HT.sIx]
  | some i=>
   simp only[sliceBounds,HT.sIx,Option.getD_none,show (1:Int) > 0 by decide,if_true]
   by_cases h:i < 0
   ·simp only[h,if_true] <;> omega
   ·simp only[h,if_false] <;> omega
 ·cases hi with
  | none=>simp[sliceBounds,HT.sIx]
  | some i=>
   simp only[sliceBounds,HT.sIx,Option.getD_none,show (1:Int) > 0 by decide,if_true]
   by_cases h:i < 0
   ·simp only[h,if_true] <;> omega
   ·simp only[h,if_false] <;> omega
theorem zwo (its:List Value)(lo hi:Option Int):slicePick its.toArray lo hi none=((its.drop (HT.sIx its.length 0 lo)).take (HT.sIx its.length its.length hi - HT.sIx its.length 0 lo)).toArray:=by
 obtain⟨h1,h2,h3⟩:=zri lo hi its.toArray.size
 unfold slicePick
 rw[h1,h2,h3]
 simp only[sliceRange_one,pick_run,List.size_toArray] <;> rfl
def rSlL (K:PySem.W.Frag):V→Option Int→Option Int→Hp→VK→Prop:=fun x lo hi H Q=>∃a xs,x=.ref a∧SqL K H a xs∧∀p,H p=none→Q (.ref p) (upd H p (.lst (zfE xs lo hi)))
theorem zx6:SlR X (rSlL X.K):=by
 intro pins s σ H x v vl vu lo hi sl Q I rx hs pl pu h
 obtain⟨a,xs,rfl,hx,q⟩:=h
 cases rx
 obtain⟨its,r,ht,hz⟩:=I.list hx
 have hlen:=r.length
 refine⟨"list",_,slot_list_getitem.lookup,ht.isList.typeIs,?_⟩
 refine wpAny_getItem_list_slice ht.isList hs pl pu .none (by simp) ?_ (by rw[List.size_toArray] <;> omega)
 rw[zwo,← hlen]
 refine⟨.ref s.heap.objs.size,_,I.laid (t':=s.toks) (o:=.lst (zfE xs lo hi)) (fun b ob q=>Heap.get?_push_of_some _ q) (Nat.le_refl _) ?_,rfl,q _ (I.hok.fresh (Nat.le_refl _))⟩
 exact⟨Nat.le_trans (ztC xs lo hi) hz,_,0,(r.drop (HT.sIx xs.length 0 lo)).take (HT.sIx xs.length xs.length hi - HT.sIx xs.length 0 lo),Heap.get?_push_size _ rfl⟩

def zkd:V→Bool
 | .non=>true
 | .bl _=>true
 | .int _=>true
 | .str _=>true
 | _=>false
def eqV:V→V→Bool
 | .non,.non=>true
 | .bl a,.bl b=>a == b
 | .bl a,.int b=>(if a then 1 else 0) == b
 | .int a,.bl b=>a == (if b then 1 else 0)
 | .int a,.int b=>a == b
 | .str a,.str b=>a == b
 | _,_=>false
theorem zsa {A:Around}{s:Shared}{y x:V}{u v:Value}(ry:zav y u)(rx:zav x v)(fy:zkd y=true)(fx:zkd x=true):SeqAt.EqAt A s u v (eqV y x):=by
 cases y with
 | non=>
  cases ry
  cases x with
  | non=>cases rx; exact SeqAt.EqAt.same _
  | bl b=>cases rx; exact SeqAt.EqAt.none_bool b
  | int b=>obtain⟨t,rfl⟩:=rx; exact SeqAt.EqAt.none_int b t
  | str b=>obtain⟨t,rfl⟩:=rx; exact SeqAt.EqAt.none_str b t
  | _=>exact absurd (show false=true from fx) Bool.false_ne_true
 | bl a=>
  cases ry
  cases x with
  | non=>cases rx; exact SeqAt.EqAt.bool_none a
  | bl b=>cases rx; exact SeqAt.EqAt.bool_bool a b
  | int b=>obtain⟨t,rfl⟩:=rx; exact SeqAt.EqAt.bool_int a b t
  | str b=>obtain⟨t,rfl⟩:=rx; exact SeqAt.EqAt.bool_str a b t
  | _=>exact absurd (show false=true from fx) Bool.false_ne_true
 | int a=>
  obtain⟨t',rfl⟩:=ry
  cases x with
  | non=>cases rx; exact SeqAt.EqAt.int_none a t'
  | bl b=>cases rx; exact SeqAt.EqAt.int_bool a t' b
  | int b=>obtain⟨t,rfl⟩:=rx; exact SeqAt.EqAt.int_int a t' b t
  | str b=>obtain⟨t,rfl⟩:=rx; exact SeqAt.EqAt.int_str a t' b t
  | _=>exact absurd (show false=true from fx) Bool.false_ne_true
 | str a=>
  obtain⟨t',rfl⟩:=ry
  cases x with
  | non=>cases rx; exact SeqAt.EqAt.str_none a t'
  | bl b=>cases rx; exact SeqAt.EqAt.str_bool a t' b
  | int b=>obtain⟨t,rfl⟩:=rx; exact SeqAt.EqAt.str_int a t' b t
  | str b=>obtain⟨t,rfl⟩:=rx; exact SeqAt.EqAt.str_str a t' b t
  | _=>exact absurd (show false=true from fx) Bool.false_ne_true
 | _=>exact absurd (show false=true from fy) Bool.false_ne_true
theorem zrB:zbd X (.builtin "len") (fun xs H Q=>∃p ys,xs=[.ref p]∧(SqL X.K H p ys∨SqT X.K H p ys)∧Q (.int ys.length) H):=by
 intro pins s σ H xs us Q I r h
 obtain⟨p,ys,rfl,hq,q⟩:=h
 obtain⟨u,rfl,rx⟩:=zdl r
 cases rx
 have hn:=zi7
 rcases hq with hq | hq
 ·obtain⟨its,r',pl,hz⟩:=I.list hq
  have hlen:=r'.length
  exact Calls.call_len_list pl.isList (by simp only[List.size_toArray] <;> omega) ⟨.int ys.length,H,I.tok _,⟨s.toks + 1,by rw[List.size_toArray,hlen]⟩,q⟩
 ·obtain⟨its,r',pl,hz⟩:=I.tuple hq
  have hlen:=r'.length
  exact len_tuple pl (by simp only[List.size_toArray] <;> omega) ⟨.int ys.length,H,I.tok _,⟨s.toks + 1,by rw[List.size_toArray,hlen]⟩,q⟩
theorem zbd.or {f:Value}{r r':List V→Hp→VK→Prop}(h:zbd X f r)(h':zbd X f r'):zbd X f (fun xs H Q=>r xs H Q∨r' xs H Q):=by
 intro pins s σ H xs us Q I rs q
 rcases q with q | q
 ·exact h pins s σ H xs us Q I rs q
 ·exact h' pins s σ H xs us Q I rs q
theorem zvp:zbd X (.type "list") (fun xs H Q=>∃p ys,xs=[.ref p]∧(SqL X.K H p ys∨SqT X.K H p ys)∧∀l,H l=none→Q (.ref l) (upd H l (.lst ys))):=by
 intro pins s σ H xs us Q I r h
 obtain⟨p,ys,rfl,hq,q⟩:=h
 obtain⟨u,rfl,rx⟩:=zdl r
 cases rx
 have fin:∀(its:List Value),zat ys its→ys.length≤sizeLine→∀(h':Heap) (c':Nat),(∀b o',s.heap.get? b=some o'→h'.get? b=some o')→
   h'.get? s.heap.objs.size=some { cls:=.type "list",dict:=none,data:=.seq its.toArray c',slots:=#[] }→EP X pins σ Q (.ref s.heap.objs.size) { s with heap:=h' }:=fun its r' hz h' c' kp e=>
  ⟨.ref s.heap.objs.size,_,I.laid (t':=s.toks) kp (Nat.le_refl _) (show zbx X.prog X.w _ h' _ (.lst ys) from ⟨hz,its,c',r',e⟩),rfl,q _ (I.hok.fresh (Nat.le_refl _))⟩
 rcases hq with hq | hq
 ·obtain⟨its,r',pl,hz⟩:=I.list hq
  have hlen:=r'.length
  obtain⟨o,ho,hc,n,hd⟩:=pl.isList
  exact call_list_seq p (.inl rfl) ho hc hd (fun h' c' kp e=>fin its r' hz h' c' kp e) (by simp only[List.size_toArray] <;> omega)
 ·obtain⟨its,r',pl,hz⟩:=I.tuple hq
  have hlen:=r'.length
  obtain⟨o,ho,hc,n,hd⟩:=pl
  exact call_list_seq p (.inr rfl) ho hc hd (fun h' c' kp e=>fin its r' hz h' c' kp e) (by simp only[List.size_toArray] <;> omega)
def tyV (K:PySem.W.Frag)(T:String)(x:V)(H:Hp):Prop:=match x with
 | .str _=>T="str"
 | .int _=>T="int"
 | .ref p=>(T="list"∧∃xs,SqL K H p xs)∨(T="tuple"∧∃o,K.lookup p=some o∧o.cls=.type "tuple"∧o.dict=none)∨
   (T="dict"∧((∃kvs,H p=some (.dK kvs))∨∃kvs,H p=some (.dT kvs)))∨(T="set"∧∃S n,H p=some (.set S n))
 | _=>False
theorem ztH {pins:List (Addr×Obj)}{σ:St}{H:Hp}{s:Shared}{T:String}{x:V}{v:Value}(I:Inv X pins σ H s)(r:zav x v)(ty:tyV X.K T x H):
  s.TypeIs v T∧∀a,v=.ref a→∃ob,s.heap.get? a=some ob∧ob.dict=none:=by
 cases x with
 | str z=>
  obtain⟨t,rfl⟩:=r
  cases (show T="str" from ty)
  exact⟨typeIs_str s z t,fun _ e=>nomatch e⟩
 | int i=>
  obtain⟨t,rfl⟩:=r
  cases (show T="int" from ty)
  exact⟨typeIs_int s i t,fun _ e=>nomatch e⟩
 | ref p=>
  cases r
  rcases ty with ⟨rfl,xs,hq⟩ | ⟨rfl,o,hk,hc,hd⟩ | ⟨rfl,hk⟩ | ⟨rfl,S,n,hk⟩
  ·obtain⟨its,_,pl,_⟩:=I.list hq
   refine⟨pl.isList.typeIs,fun a e=>?_⟩
   cases e
   obtain⟨o,n,e,c,hd,_⟩:=pl
   exact⟨o,e,hd⟩
  ·refine⟨⟨o,I.kIn p o hk,hc⟩,fun a e=>?_⟩
   cases e
   exact⟨o,I.kIn _ o hk,hd⟩
  ·have z:∃o,s.heap.get? p=some o∧o.ExactDict:=by
    rcases hk with ⟨kvs,hk⟩ | ⟨kvs,hk⟩
    ·obtain⟨_,_,_,_,o,_,_,e,ex,_⟩:=I.hok p _ hk
     exact⟨o,e,ex⟩
    ·obtain⟨_,_,_,_,o,_,_,e,ex,_⟩:=I.hok p _ hk
     exact⟨o,e,ex⟩
   obtain⟨o,e,ex⟩:=z
   refine⟨⟨o,e,ex.1⟩,fun a e2=>?_⟩
   cases e2
   exact⟨o,e,ex.2.1⟩
  ·obtain⟨o,_,_,_,e,ex,_⟩:=I.hok p _ hk
   refine⟨⟨o,e,ex.1⟩,fun a e2=>?_⟩
   cases e2
   exact⟨o,e,ex.2.1⟩
 | _=>exact False.elim ty
def tBM (K:PySem.W.Frag)(T:String)(r:V→List V→Hp→VK→Prop)(to:TE)(t:TA):TE:=fun σ H Q=>to σ H fun x H1=>tyV K T x H1∧t σ H1 fun xs H2=>r x xs H2 Q
variable {o e:Expr}{es:List Expr}{to:TE}{t:TA}{name:Str}{apos cpos:Pos}{T id:String}{r:V→List V→Hp→VK→Prop}
theorem zq7 (pa:PlainAttrs T)(slot:Slot T name id)(hty:typeOf (.builtin id)=pure (.type "method_descriptor"))(hm:MtR X id r)(ho:PE X o to)(ha:PA X (e::es) t)
  (hbase:attributeBase o name X.env (eval o X.env)=eval o X.env:=by rfl)
  (hfew:((backTo cpos (starEach (e::es) X.env)).all (fun x=>!x.1) && (backToKw cpos (keywordEach [] X.env)).all (fun x=>x.1.isSome)
   && decide ((e::es).length + ([]:List Keyword).length + (if ([]:List Keyword).isEmpty then 0 else 1) < 30))=true:=by rfl)
  (hline:(apos.endLine == cpos.line)=true:=by rfl)(hs:starEach (e::es) X.env=(false,eval e X.env)::starEach es X.env:=by rfl)(hplain:(backTo cpos (starEach es X.env)).any (·.1)=false:=by rfl):
  PE X (.Call (.Attribute o name apos) (e::es) [] cpos) (tBM X.K T r to t):=by
 intro pins s σ H Q I h
 refine wpAny_Call_method_late hbase hfew hline rfl (thn (ho pins s σ H _ I h) fun v s1 ⟨x,H1,I1,r1,ty,q1⟩=>?_)
 obtain⟨h1,h2⟩:=ztH I1 r1 ty
 refine⟨T,id,pa,slot,hty,h1,h2,?_⟩
 have hA:=ha cpos pins s1 σ H1 _ I1 q1
 rw[hs] at hA ⊢
 refine Calls.callWith_builtin (by show (false || (backTo cpos (starEach es X.env)).any (·.1))=false; rw[hplain] <;> rfl) (Calls.evalArgs_plain ?_)
 exact thn hA fun us s2 ⟨vs,H2,I2,r2,q2⟩=>hm pins s2 σ H2 x vs v us Q I2 r1 r2 q2
end
end L2

namespace L2
open PySem PySem.Spec PyProof.Rows

def MtM (X:Cx)(id:String)(r:V→List V→Hp→VK→Prop):Prop:=
 ∀(pins:List (Addr×Obj)) (s:Shared) (σ:St) (H:Hp) (x:V) (xs:List V) (v:Value) (us:List Value) (Q:VK),Inv X pins σ H s→zav x v→zat xs us→r x xs H Q→
  wpAny (model X.prog X.w) X.A (call (.builtin id) (v::us)) (EP X pins σ Q) X.xe s

theorem zat.one:∀ {x:V} {us:List Value},zat [x] us→∃u,us=[u]∧zav x u
 | _,_,.cons r .nil=>⟨_,rfl,r⟩
theorem zat.two:∀ {x y:V} {us:List Value},zat [x,y] us→∃u v,us=[u,v]∧zav x u∧zav y v
 | _,_,_,.cons r (.cons q .nil)=>⟨_,_,rfl,r,q⟩
theorem zat.zero:∀ {us:List Value},zat [] us→us=[]
 | _,.nil=>rfl
theorem zat.reverse {xs:List V}{us:List Value}(h:zat xs us):zat xs.reverse us.reverse:=by
 induction h with
 | nil=>exact .nil
 | cons r t ih=>rw[List.reverse_cons,List.reverse_cons]; exact zat.append ih (.cons r .nil)
theorem zat.rep {xs:List V}{us:List Value}(h:zat xs us):∀k:Nat,zat (List.replicate k xs).flatten (List.replicate k us).flatten
 | 0=>.nil
 | k + 1=>by
  rw[List.replicate_succ,List.replicate_succ,List.flatten_cons,List.flatten_cons]
  exact zat.append h (zat.rep h k)
theorem zqN (its:List Value):∀(k:Nat) (acc:List Value),
  List.foldl (fun x1 x2=>x1++x2) acc.toArray (List.replicate k its.toArray)=(acc++(List.replicate k its).flatten).toArray
 | 0,acc=>by simp
 | k + 1,acc=>by
  have e:acc.toArray++its.toArray=(acc++its).toArray:=by simp
  have e2:(acc++its)++(List.replicate k its).flatten=acc++(List.replicate (k + 1) its).flatten:=by
   rw[List.replicate_succ,List.flatten_cons,List.append_assoc]
  rw[← e2,← zqN its k (acc++its),← e,List.replicate_succ,List.foldl_cons]

section
variable {X:Cx}{pins:List (Addr×Obj)}{σ:St}{H:Hp}{s:Shared}{l b:Addr}{xs ys zs:List V}

theorem Inv.lset {its its':List Value}{n:Nat}{f:Array Value→Array Value}{t':Nat}(I:Inv X pins σ H s)(hH:H l=some (.lst xs))
  (e:s.heap.get? l=some { cls:=.type "list",data:=.seq its.toArray n })(hf:f its.toArray=its'.toArray)(hv:zat ys its')(hz:ys.length≤sizeLine):
  Inv X pins σ (upd H l (.lst ys)) { s with heap:=s.heap.update l (Obj.mapSeq f),toks:=t' }:=by
 have q:=PySem.IsL.update e f
 rw[hf] at q
 refine I.write (x:=l) (e:=l) (by rw[hH]; exact trivial) (.inl rfl) (fun b' u hb hu=>(Heap.get?_update_other s.heap (Obj.mapSeq f) (Ne.symm hb)).trans hu) ⟨_,q⟩ ?_
 exact⟨hz,its',_,hv,q⟩
theorem Inv.lnew {its:List Value}{t':Nat}(I:Inv X pins σ H s)(hv:zat ys its)(hz:ys.length≤sizeLine):
  Inv X pins σ (upd H s.heap.objs.size (.lst ys)) { s with heap:=s.heap.push { cls:=.type "list",data:=.seq its.toArray },toks:=t' }:=
 I.laid (fun _ _ q=>Heap.get?_push_of_some _ q) (Nat.le_refl _) ⟨hz,its,0,hv,Heap.get?_push_size _ rfl⟩
theorem Inv.fresh (I:Inv X pins σ H s):H s.heap.objs.size=none:=I.hok.fresh (Nat.le_refl _)
theorem Inv.lstM (I:Inv X pins σ H s)(hH:H l=some (.lst xs)):xs.length≤sizeLine∧∃(its:List Value) (n:Nat),zat xs its∧xs.length=its.length∧s.heap.get? l=some { cls:=.type "list",data:=.seq its.toArray n }:=by
 obtain⟨z,its,n,r,e⟩:=I.hok l _ hH
 exact⟨z,its,n,r,r.length,e⟩

theorem zue {n:Nat}(h:n≤sizeLine):Builtin.List.listTooLong n=false:=by
 unfold Builtin.List.listTooLong
 exact decide_eq_false (by omega)
end

section
variable {X:Cx}

def zsE:V→List V→Hp→VK→Prop:=fun x vs H Q=>∃l xs y,x=.ref l∧vs=[y]∧H l=some (.lst xs)∧xs.length < sizeLine∧Q .non (upd H l (.lst (xs++[y])))
theorem zne:MtM X "list.append" zsE:=by
 intro pins s σ H x vs v us Q I rx rv h
 obtain⟨l,xs,y,rfl,rfl,hH,hz,q⟩:=h
 cases rx
 obtain⟨u,rfl,ru⟩:=rv.one
 obtain⟨z,its,n,r,hl,e⟩:=I.lstM hH
 refine call_meets F.slot_list_append ⟨_,e,rfl⟩ F.entry_list_append (F.args_list_append_2 _ _) (PySem.list_append l its.toArray n u (by rw[List.size_toArray]; omega)) ⟨e,?_⟩
 refine⟨.non,_,I.lset (its':=its++[u]) hH e (by simp) (r.append (.cons ru .nil)) ?_,rfl,q⟩
 rw[List.length_append,List.length_singleton]
 omega

def rCat:R2:=fun x y H Q=>∃l b xs zs,x=.ref l∧y=.ref b∧H l=some (.lst xs)∧H b=some (.lst zs)∧xs.length + zs.length≤sizeLine∧∀p,H p=none→Q (.ref p) (upd H p (.lst (xs++zs)))
theorem zuW:OpR X (binaryOp .Add) rCat:=by
 intro pins s σ H x y v u Q I rx ry h
 obtain⟨l,b,xs,zs,rfl,rfl,hH,hB,hz,q⟩:=h
 cases rx
 cases ry
 obtain⟨z,its,n,r,hl,e⟩:=I.lstM hH
 obtain⟨z2,its2,n2,r2,hl2,e2⟩:=I.lstM hB
 refine PySem.P.add_list e e2 ?_ (by rw[List.size_toArray,List.size_toArray]; omega)
 have ea:its.toArray++its2.toArray=(its++its2).toArray:=by simp
 rw[ea]
 exact⟨.ref _,_,I.lnew (t':=s.toks) (r.append r2) (by rw[List.length_append]; omega),rfl,q _ I.fresh⟩
def rRep:R2:=fun x y H Q=>∃l k xs,x=.ref l∧y=.int k∧H l=some (.lst xs)∧-(2 ^ 63)≤k∧k < 2 ^ 63∧xs.length * k.toNat≤sizeLine∧
 ∀p,H p=none→Q (.ref p) (upd H p (.lst (List.replicate k.toNat xs).flatten))
theorem zvX {α:Type}(xs:List α)(k:Nat):(List.replicate k xs).flatten.length=k * xs.length:=by
 induction k with
 | zero=>simp
 | succ k ih=>rw[List.replicate_succ,List.flatten_cons,List.length_append,ih,Nat.succ_mul,Nat.add_comm]
theorem zve:OpR X (binaryOp .Mult) rRep:=by
 intro pins s σ H x y v u Q I rx ry h
 obtain⟨l,k,xs,rfl,rfl,hH,h1,h2,hz,q⟩:=h
 cases rx
 obtain⟨t,rfl⟩:=ry
 obtain⟨z,its,n,r,hl,e⟩:=I.lstM hH
 have hlen:its.toArray.size * k.toNat≤sizeLine:=by rw[List.size_toArray,← hl]; exact hz
 have hcap:¬ its.toArray.size * k.toNat > (2 ^ 63 - 1) / 8:=by
  have:(sizeLine:Nat)≤(2 ^ 63 - 1) / 8:=by decide
  omega
 have hfit:¬ (!Builtin.List.listFitsIndex k)=true:=by
  rw[fitsIndex_both h1 h2]
  exact Bool.false_ne_true
 have hlong:¬ Builtin.List.listTooLong (its.toArray.size * k.toNat)=true:=by
  rw[zue hlen]
  exact Bool.false_ne_true
 have hnew:List.foldl (fun x1 x2=>x1++x2) #[] (List.replicate (if its.toArray.isEmpty=true then 0 else k.toNat) its.toArray)=(List.replicate k.toNat its).flatten.toArray:=by
  have f0:∀m:Nat,List.foldl (fun x1 x2=>x1++x2) #[] (List.replicate m its.toArray)=(List.replicate m its).flatten.toArray:=fun m=>by
   have:=zqN its m []
   rw[List.nil_append] at this
   exact this
  rw[f0]
  cases its with
  | nil=>simp
  | cons a r'=>rw[if_neg (by simp)]
 refine wpAny_binaryOp_repeat_ref (T:="list") (U:="int") (by decide) ⟨_,e,rfl⟩ (fun s'=>typeIs_int s' k t) noFill_list_mul F.fills_int_mul F.slot_int_rmul repeat_list F.slot_int_index.lookup
  (call_meets F.slot_int_rmul (typeIs_int s k t) F.entry_int_rmul (F.args_int_rmul_2 _ _) (int___rmul___int_list k t l its.toArray n)
   ⟨e,rfl,⟨_,e,rfl⟩,call_meets F.slot_list_mul ⟨_,e,rfl⟩ F.entry_list_mul (F.args_list_mul_2 _ _) (AutoListH.list___mul___list_int_3 l its.toArray n k t hfit hcap hlong) ⟨e,?_⟩⟩)
 rw[hnew]
 exact⟨.ref _,_,I.lnew (t':=s.toks) (r.rep k.toNat) (by rw[zvX,Nat.mul_comm]; exact hz),rfl,q _ I.fresh⟩

end

section
variable {prog:Program}{w:World}{A:Around}{E:Value→Shared→Prop}{s:Shared}
set_option maxRecDepth 100000 in
end

section
variable {X:Cx}
end
end L2

namespace Att
open PySem PySem.W PySem.Calls PyProof.Rows

theorem zrR {P:Params}{h:Heap}:∀(ns:List Int) (vs:List Value),WellAll P h vs (ns.map WData.int)→IntsAre vs ns:=by
 intro ns
 induction ns with
 | nil=>
  intro vs w
  rw[List.map_nil] at w
  cases w
  exact .nil
 | cons n ns ih=>
  intro vs w
  rw[List.map_cons] at w
  cases w with
  | cons a b=>
   cases a
   exact .cons _ _ (ih _ b)

theorem zuH {l:OpenLaw}{n:Nat}(hn:l.most=some n){P:Params}{h:Heap}{args:List WData}{vals:List Value}
  (hpre:l.row.toRowW.claim.pre args=true)(hwl:WellAll P h vals args):
  ∃a vs ns,vals=[Value.ref a]∧args=[WData.list (ns.map WData.int)]∧h.get? a=some { cls:=.type "list",data:=.seq vs.toArray }∧IntsAre vs ns∧ns.length≤n:=by
 have hsh:WShape.hasAll [] args [.list .int]=true:=(pre_splitW hpre).1
 have hc:l.pre.holds [] { args:=args }=true:=(pre_splitW hpre).2
 obtain⟨d,r,rfl,h1,h2⟩:=hasAllW_cons hsh
 obtain rfl:=hasAllW_nil h2
 obtain⟨xs,rfl,h3⟩:=hasW_list h1
 obtain⟨ns,rfl⟩:=items_int h3
 have hlen:ns.length≤n:=by
  unfold OpenLaw.pre at hc
  have h4:(WTm.not (.lt (.lit (.int (n:Int))) (.len (.arg 0)))).holds [] { args:=[.list (ns.map .int)] }=true:=by
   have h4:=(holds_andW hc).1
   rw[hn] at h4
   exact h4
  have h5:=condW_of h4 (w_not (w_lt w_lit (w_len_list (w_arg rfl))))
  rw[List.length_map] at h5
  refine Nat.le_of_not_lt fun q=>?_
  have q':(n:Int) < ((ns.length:Nat):Int):=by omega
  first
   | (rw[decide_eq_true q'] at h5; exact absurd h5 (by decide))
   | (simp at h5; omega)
 cases hwl with
 | cons w1 w2=>
  cases w2
  cases w1 with
  | list ho hall=>exact⟨_,_,ns,rfl,rfl,ho,zrR ns _ hall,hlen⟩

theorem zt1 (l:OpenLaw)(args:List WData):l.row.toRowW.claim.post args (.bool true) args=true:=
 postW_of (r:=l.row.toRowW) (X:=(true == true))
  (show WShape.has [] (.bool true) .bool=true by first | rfl | decide | simp[WShape.has,WShape.arms,WShape.armsAll])
  (show (WTm.eq .res (.lit (.bool true))).value [] { args:=args,res:=some (.bool true),after:=args }=some (.bool (true == true)) from w_eq_bool (w_res rfl) w_lit) rfl

theorem attach_call {l:OpenLaw}{n:Nat}{q:Program}{loose:List Str}{XP:(Str→Option Value)→Heap→Prop}{YP:World→Heap→Prop}{d:DefRec}
  (hn:l.most=some n)(hdf:d.params.defaults=[])
  (call:∀(w:World) (s₀ s₁:Shared) (mg mb:Str→Option Value) (fa:Addr) (o:Obj) (pm cd doc:Value) (a:Addr) (vs:List Value) (ns:List Int),
   Ground q loose [] XP w s₀ mg mb s₁.heap→YP w s₁.heap→
   s₁.heap.get? fa=some o→o.data=.func (docDef d.name d.params d.body d.scope pm cd doc)→s₁.heap.CodeRec cd d.name→mg d.name=some (.ref fa)→
   s₁.heap.get? a=some { cls:=.type "list",data:=.seq vs.toArray }→IntsAre vs ns→ns.length≤n→s₁.gens=#[]→
   codeAny (model l.prog w) callerA (.call (.ref fa) ⟨[.ref a],[]⟩) (fun r s'=>r=.ok (.ret (.bool true))∧OldK s₁.heap s'.heap∧s'.os=s₁.os∧AllBare s'.gens) s₁):
  WalkO q loose XP YP l.row.toRowW d [] (fun f vs=>PySem.call f vs):=by
 intro w s₀ s₁ mg mb G Y fa o pm cd doc dV kV ho hd hcd hD hmg hg args vals as hpre hlay hrd hwl hlo
 obtain rfl:dV=.none:=Dflts.none hD hdf
 obtain rfl:kV=.none:=Dflts.noKw hD
 obtain⟨a,vs,ns,rfl,rfl,hobj,hints,hlen⟩:=zuH hn hpre hwl
 refine enter_call (codeAny_mono (call w s₀ s₁ mg mb fa o pm cd doc a vs ns G Y ho (fd_plain hd) hcd hmg hobj hints hlen hg) fun r s' hq=>?_)
 obtain⟨rfl,h2,h3,h4⟩:=hq
 exact⟨.inl ⟨.bool true,.bool true,[],rfl,fun _=>rfl,.bool true,zt1 l _,fun _=>⟨List.Pairwise.nil,fun _ hm=>(nomatch hm)⟩⟩,h2,h3,h4⟩

section
variable {prog:Program}{w:World}{A:Around}{E:Value→Shared→Prop}{s:Shared}{K:Frag}

def ledger (h:Heap)(L d:Addr):List (Addr×Obj):=(List.range h.objs.size).filterMap fun a=>if a=L∨a=d then none else (h.get? a).map fun o=>(a,o)
end
end Att

namespace L2
open PySem PySem.Spec PyProof.Rows

theorem zk5:∀ {vs:List Value} {ns:List Int},IntsAre vs ns→zat (ns.map V.int) vs
 | _,_,.nil=>.nil
 | _,_,.cons n t h=>.cons ⟨t,rfl⟩ (zk5 h)

def zio (H:Hp):Prop:=∀b,H b=none∨∃o xs,H b=some (.frz o (.lst xs))

theorem zu7 {P:Program}{w:World}{K:PySem.W.Frag}{mg mb:Str→Option Value}{CX:CXT}{k:Nat}{fa a:Addr}{fd:FuncData}{x:Str}{sp:Sp}{s₁:Shared}{vs:List Value}{ns:List Int}
  (KX:K.In s₁.heap)(hns:s₁.heap.Ns mainGlobals mg)(hb:s₁.heap.Ns builtinsNs mb)(hbb:∀x:Str,x≠"__name__"→mb x=bootBuiltins x)(hlim:s₁.heap.NoLimit)(hg:s₁.gens=#[])
  (ha:s₁.heap.get? a=some { cls:=.type "list",data:=.seq vs.toArray })(hi:IntsAre vs ns)(hl:ns.length≤sizeLine)(hr:zaJ k callerA)
  (F:∀base:Heap,K.In base→base.Ns mainGlobals mg→zbb P w K mg base CX k fa fd [x] sp)(hbind:∀(s:Shared) (u:Value),BindsTo s fd ⟨[u],[]⟩ [(x,u)])
  (hsp:∀H:Hp,zio H→SqL K H a (ns.map V.int)→sp [.ref a] H (fun v _=>v=.bl true) fun _ _ _=>False)
  (hCX:∀H e s',CX [] H s₁ (fun _ _ _=>False) e s'→False):
  codeAny (model P w) callerA (.call (.ref fa) ⟨[.ref a],[]⟩) (fun r s'=>r=.ok (.ret (.bool true))∧OldK s₁.heap s'.heap∧s'.os=s₁.os∧AllBare s'.gens) s₁:=by
 have rv:=zk5 hi
 have lenV:=hi.length
 -- from an abstract heap in which nothing but the script may be tracked
 have core:∀H:Hp,zio H→SqL K H a (ns.map V.int)→HOk P w H s₁.heap→(∀b,H b≠none→b=a)→(H a≠none→K.lookup a=none)→
   codeAny (model P w) callerA (.call (.ref fa) ⟨[.ref a],[]⟩) (fun r s'=>r=.ok (.ret (.bool true))∧OldK s₁.heap s'.heap∧s'.os=s₁.os∧AllBare s'.gens) s₁:=by
  intro H hO hS hok hA hK
  have base_of:∀ {b:Addr} {o:Obj},s₁.heap.get? b=some o→H b=none→(zdp s₁.heap H).get? b=some o:=fun e n=>zxT e n
  have noA:∀ {b:Addr} {o:Obj} {es:Array DictEntry} {ep:Nat},s₁.heap.get? b=some o→o.data=.dict es ep→H b=none:=fun {b o es ep} e d=>by
   cases q:H b with
   | none=>rfl
   | some u=>
    have e':b=a:=hA b (by rw[q]; simp)
    subst e'
    rw[ha] at e; cases e
    have d':Data.seq vs.toArray _=Data.dict es ep:=d
    cases d'
  have nsK:∀ {b:Addr} {m:Str→Option Value},s₁.heap.Ns b m→(zdp s₁.heap H).Ns b m:=fun {b m} ⟨o,es,ep,e,d,r⟩=>⟨o,es,ep,base_of e (noA e d),d,r⟩
  have hKb:K.In (zdp s₁.heap H):=fun b o e=>base_of (KX b o e) (by
   cases q:H b with
   | none=>rfl
   | some u=>
    have e':b=a:=hA b (by rw[q]; simp)
    subst e'
    rw[hK (by rw[q]; simp)] at e; cases e)
  have hM:Mod K mg (zdp s₁.heap H):=⟨hKb,nsK hns,⟨mb,nsK hb,hbb⟩,let ⟨mc,h1,h2⟩:=hlim; ⟨mc,nsK h1,h2⟩⟩
  have e0:zcI P w K mg (zdp s₁.heap H) callerA [] s₁ H:=⟨rfl,hM,fun b o e=>zr4 e,Nat.le_of_eq (zrM _ _),trivial,fun b hb=>absurd (show b∈([]:List Addr) from hb) (by simp),hok,.of_eq hg⟩
  refine codeAny_mono ((F _ hKb (nsK hns)).run callerA [] s₁ H ⟨[.ref a],[]⟩ [.ref a] [.ref a] _ _ hr e0 (hbind s₁ (.ref a)) (.cons rfl .nil) (hsp H hO hS)) fun r s' h=>?_
  cases r with
  | error e=>exact(hCX H e s' h).elim
  | ok fl=>
   cases fl with
   | next=>exact False.elim h
   | brk=>exact False.elim h
   | cont=>exact False.elim h
   | ret u=>
    obtain⟨v,H',os,bare,un,hok',r',q⟩:=h
    have q':v=.bl true:=q
    subst q'
    obtain rfl:u=Value.bool true:=r'
    refine⟨rfl,OldK.of_keep fun b o e=>?_,os,bare⟩
    cases q:H b with
    | none=>exact un.keep b o e q (by intro z; exact absurd (show b∈([]:List Addr) from z) (by simp)) (by simp)
    | some u=>
     rcases hO b with z | ⟨ob,xs,z⟩
     ·rw[q] at z; cases z
     ·have z2:=un.frzs b ob _ z
      obtain⟨e1,_⟩:=hok b _ z
      obtain⟨e2,_⟩:=hok' b _ z2
      rw[e] at e1; cases e1
      exact e2
 cases hk:K.lookup a with
 | some o=>
  -- the script is one of the module's own objects
  have e:=KX a o hk
  rw[ha] at e
  cases e
  refine core (fun _=>none) (fun _=>.inl rfl) (.inr ⟨_,vs.toArray,_,hk,rfl,rfl,rfl,by rw[List.size_toArray,lenV]; exact hl,by simpa using rv⟩) (fun b u z=>by have z':(none:Option HO)=some u:=z; cases z') (fun b z=>absurd rfl z) fun z=>absurd rfl z
 | none=>
  refine core (fun b=>if b=a then some (.frz { cls:=.type "list",data:=.seq vs.toArray } (.lst (ns.map V.int))) else none) (fun b=>?_) (.inl (.inr ⟨{ cls:=.type "list",data:=.seq vs.toArray },if_pos rfl⟩)) (fun b u z=>?_) (fun b z=>?_) fun _=>hk
  ·by_cases hb:b=a
   ·exact .inr ⟨_,_,if_pos hb⟩
   ·exact .inl (if_neg hb)
  ·by_cases hb:b=a
   ·have z':=(if_pos hb).symm.trans z
    cases z'
    subst hb
    exact⟨ha,by rw[List.length_map]; exact hl,vs,_,rv,ha⟩
   ·have z':=(if_neg hb).symm.trans z
    cases z'
  ·by_cases hb:b=a
   ·exact hb
   ·exact absurd (if_neg hb) z
end L2

namespace L2
open PySem PySem.Spec PyProof.Rows

theorem zsJ {l:PySem.W.OpenLaw}{n k:Nat}{q:Program}{loose:List Str}{XP:(Str→Option Value)→Heap→Prop}{YP:World→Heap→Prop}{d:DefRec}{K:Params→PySem.W.Frag}{CX:World→CXT}{sp:World→Sp}{x:Str}
  (hn:l.most=some n)(hn2:n≤sizeLine)(hdf:d.params.defaults=[])(hr:zaJ k callerA)
  (hY:∀(w:World) (h:Heap),YP w h→(K w.params).In h)
  (F:∀(w:World) (mg:Str→Option Value) (fa:Addr) (h:Heap),(K w.params).In h→h.Ns mainGlobals mg→mg d.name=some (.ref fa)→
   ∃fd:FuncData,(∀(s:Shared) (u:Value),BindsTo s fd ⟨[u],[]⟩ [(x,u)])∧
    ∀base:Heap,(K w.params).In base→base.Ns mainGlobals mg→zbb l.prog w (K w.params) mg base (CX w) k fa fd [x] (sp w))
  (hsp:∀(w:World) (H:Hp) (a:Addr) (ns:List Int),ns.length≤n→zio H→SqL (K w.params) H a (ns.map V.int)→sp w [.ref a] H (fun v _=>v=.bl true) fun _ _ _=>False)
  (hCX:∀(w:World) (H:Hp) (s:Shared) (e:Value) (s':Shared),CX w [] H s (fun _ _ _=>False) e s'→False):
  PySem.W.WalkO q loose XP YP l.row.toRowW d [] (fun f vs=>PySem.call f vs):=by
 refine Att.attach_call hn hdf fun w s₀ s₁ mg mb fa o pm cd doc a vs ns G Y ho hd hcd hmg hobj hints hlen hg=>?_
 have KX:=hY w _ Y
 obtain⟨fd,hb,hF⟩:=F w mg fa _ KX G.T.g hmg
 exact zu7 KX G.T.g G.T.b G.T.builtins G.T.nolimit hg hobj hints (Nat.le_trans hlen hn2) hr hF hb (fun H hO hS=>hsp w H a ns hlen hO hS) fun H e s'=>hCX w H s₁ e s'
end L2


namespace L2
open PySem PySem.Spec PyProof.Rows

abbrev CX0:CXT:=fun _ _ _ _ _ _=>False
structure Fun (K:PySem.W.Frag)(x qual:Str)(st:Stmt)(f:Addr)(fd:FuncData):Prop where
 ex:∃(oc:Value) (od:Option Addr) (kV doc pm:Value) (an:Option Addr) (cdv ct:Value) (osl:Array (Option Value)),
  fd=PySem.W.fnOf x qual (zd3 st) (zdb st) (zao st) .none kV doc pm an cdv ct∧K.lookup f=some ⟨oc,od,.func fd,osl⟩∧PySem.W.codeIn K cdv qual=true
 kp:PySem.W.keepIn K (.ref f)=true
section
variable {P:Program}{w:World}{K:PySem.W.Frag}{mg:Str→Option Value}{base:Heap}
theorem Fun.ok {x qual:Str}{st:Stmt}{f:Addr}{fd:FuncData}{N ps:List Str}{k:Nat}{sp:Sp}(F:Fun K x qual st f fd)(S:zaw N ps (zao st))(len:∀vs H Q E,sp vs H Q E→vs.length=ps.length)
  (hbody:∀(cdv:Value) (A:Around) (outer:List Env) (s:Shared) (H:Hp) (vs:List V) (Q:VK) (E:XK),zaJ k (A.deeper (envOfC qual (zao st) s.heap.objs.size f cdv))→sp vs H Q E→
   ∃t,PSs (zd8 CX0 P w K mg base N qual (zao st) f cdv A outer s H E).nox (zdb st) t∧t { nx:=fun _ H'=>Q .non H',rt:=Q } (zcH N vs) H):zbb P w K mg base CX0 (k + 1) f fd ps sp:=by
 obtain⟨oc,od,kV,doc,pm,an,cdv,ct,osl,rfl,lk,hcd⟩:=F.ex
 refine zpg lk hcd S len fun A outer s H vs Q E hr hsp=>?_
 obtain⟨t,h,q⟩:=hbody cdv A outer s H vs Q E hr hsp
 exact⟨t,h.nox,q⟩
theorem Fun.binds {x qual:Str}{st:Stmt}{f:Addr}{fd:FuncData}{ps:List Str}(F:Fun K x qual st f fd)
  (h:∀(kV doc pm:Value) (an:Option Addr) (cdv ct:Value) (us:List Value),us.length=ps.length→bindArgs (PySem.W.fnOf x qual (zd3 st) (zdb st) (zao st) .none kV doc pm an cdv ct) ⟨us,[]⟩=pure (ps.zip us)):zbM K fd ps []:=by
 obtain⟨oc,od,kV,doc,pm,an,cdv,ct,osl,rfl,lk,hcd⟩:=F.ex
 exact .all (h kV doc pm an cdv ct)
theorem zi9 {x qual:Str}{st:Stmt}{f:Addr}{oc:Value}{od an:Option Addr}{osl:Array (Option Value)}{kV doc pm cdv ct:Value}(l:K.lookup f=some ⟨oc,od,.func (PySem.W.fnOf x qual (zd3 st) (zdb st) (zao st) .none kV doc pm an cdv ct),osl⟩)
  (c:PySem.W.codeIn K cdv qual=true)(k:PySem.W.keepIn K (.ref f)=true):Fun K x qual st f (PySem.W.fnOf x qual (zd3 st) (zdb st) (zao st) .none kV doc pm an cdv ct):=⟨⟨oc,od,kV,doc,pm,an,cdv,ct,osl,rfl,l,c⟩,k⟩
end
theorem zhm {n:Nat}(h:n≤1000):n < sizeLine:=Nat.lt_of_le_of_lt h (by decide)

section
variable {X:Cx}
theorem pv (i:Nat){x:Str}{pos:Pos}(hN:X.N[i]?=some x:=by rfl)(hv:Vis X.env.scope x:=by first | exact Or.inl rfl | exact Or.inr (Or.inl rfl) | exact Or.inr (Or.inr rfl))(hd:(x == ("__debug__":Str))=false:=by decide)
  (hcd:(x == ("__classdict__":Str))=false:=by decide):PE X (.Name x pos) (tVar i):=zpo hN hv hd hcd
end

theorem zbc {A B:Prop}(h:B):if false=true then A else B:=by
 rw[if_neg Bool.false_ne_true]
 exact h
theorem zb2 {A B:Prop}(h:A):if true=true then A else B:=by
 rw[if_pos rfl]
 exact h
theorem zcV {c A B:Prop} [Decidable c] (h1:c→A)(h2:¬ c→B):if c then A else B:=by
 by_cases h:c
 ·rw[if_pos h]
  exact h1 h
 ·rw[if_neg h]
  exact h2 h
def zcZ (H H':Hp):Prop:=∀b o,H b=some o→H' b=some o
theorem zcZ.refl (H:Hp):zcZ H H:=fun _ _ h=>h
theorem zcZ.trans {H H1 H2:Hp}(a:zcZ H H1)(b:zcZ H1 H2):zcZ H H2:=fun c o h=>b c o (a c o h)
theorem zcZ.free {H H':Hp}(e:zcZ H H'){l:Addr}(h:H' l=Option.none):H l=Option.none:=by
 cases q:H l with
 | none=>rfl
 | some o=>
  rw[e l o q] at h
  cases h
theorem zcZ.seq {K:PySem.W.Frag}{H H':Hp}{a:Addr}{xs:List V}(e:zcZ H H')(h:SqL K H a xs):SqL K H' a xs:=by
 rcases h with (h | ⟨o,h⟩) | h
 ·exact .inl (.inl (e _ _ h))
 ·exact .inl (.inr ⟨o,e _ _ h⟩)
 ·exact .inr h

end L2

namespace L2
open PySem PySem.Spec PyProof.Rows
section
variable {κ:Type} [DecidableEq κ]
def zb5 (kvs:List (κ×V))(k:κ):Option V:=(kvs.find? fun kv=>decide (kv.1=k)).map (·.2)
def putK (kvs:List (κ×V))(k:κ)(v:V):List (κ×V):=
 if (kvs.any fun kv=>decide (kv.1=k))=true then kvs.map (fun kv=>if kv.1=k then (kv.1,v) else kv) else kvs++[(k,v)]
def zpt (kvs:List (κ×V))(k:κ):List (κ×V):=kvs.filter fun kv=>decide (kv.1≠k)

theorem zjP {p:κ×V}{r:List (κ×V)}{k:κ}(e:p.1=k):zb5 (p::r) k=some p.2:=by simp[zb5,List.find?_cons,e]
theorem zmp {p:κ×V}{r:List (κ×V)}{k:κ}(e:¬ p.1=k):zb5 (p::r) k=zb5 r k:=by simp[zb5,List.find?_cons,e]
theorem zqc (k:κ):∀kvs:List (κ×V),(kvs.any fun kv=>decide (kv.1=k))=(zb5 kvs k).isSome
 | []=>rfl
 | p::r=>by
  rw[List.any_cons]
  by_cases e:p.1=k
  ·simp only[zjP e,decide_eq_true e,Bool.true_or,Option.isSome_some]
  ·rw[zmp e,decide_eq_false e,Bool.false_or]; exact zqc k r
theorem zbR.isSome_eq {o:Option V}{u:Option Value}(r:zbR o u):o.isSome=u.isSome:=by
 cases o with
 | none=>cases u with
  | none=>rfl
  | some _=>exact(show False from r).elim
 | some _=>cases u with
  | none=>exact(show False from r).elim
  | some _=>rfl
theorem zbR.getD {o:Option V}{u:Option Value}{d:V}{d':Value}(r:zbR o u)(rd:zav d d'):zav (o.getD d) (u.getD d'):=by
 cases o with
 | none=>cases u with
  | none=>exact rd
  | some _=>exact(show False from r).elim
 | some _=>cases u with
  | none=>exact(show False from r).elim
  | some _=>exact r

theorem KV.val {kvs:List (κ×V)}{vs:List (κ×Value)}(r:KV kvs vs)(k:κ):zbR (zb5 kvs k) (valueAt vs k):=by
 unfold KV at r
 induction r with
 | nil=>exact True.intro
 | @cons p q ps qs h t ih=>
  obtain⟨h1,h2⟩:=h
  by_cases e:p.1=k
  ·have e':q.1=k:=h1.symm.trans e
   have b:valueAt (q::qs) k=some q.2:=by simp[valueAt,List.find?_cons,e']
   rw[zjP e,b]; exact h2
  ·have e':¬ q.1=k:=fun z=>e (h1.trans z)
   have b:valueAt (q::qs) k=valueAt qs k:=by simp[valueAt,List.find?_cons,e']
   rw[zmp e,b]; exact ih
theorem KV.any {kvs:List (κ×V)}{vs:List (κ×Value)}(r:KV kvs vs)(k:κ):(kvs.any fun kv=>decide (kv.1=k))=vs.any fun kv=>decide (kv.1=k):=by
 unfold KV at r
 induction r with
 | nil=>rfl
 | cons h t ih=>rw[List.any_cons,List.any_cons,ih,h.1]
theorem KV.repl {kvs:List (κ×V)}{vs:List (κ×Value)}(r:KV kvs vs)(k:κ){y:V}{u:Value}(ry:zav y u):
  KV (kvs.map fun kv=>if kv.1=k then (kv.1,y) else kv) (vs.map fun kv=>if kv.1=k then (kv.1,u) else kv):=by
 unfold KV at r ⊢
 induction r with
 | nil=>exact .nil
 | @cons p q ps qs h t ih=>
  rw[List.map_cons,List.map_cons]
  refine .cons ?_ ih
  obtain⟨h1,h2⟩:=h
  by_cases e:p.1=k
  ·rw[if_pos e,if_pos (h1.symm.trans e)]; exact⟨h1,ry⟩
  ·rw[if_neg e,if_neg (fun z=>e (h1.trans z))]; exact⟨h1,h2⟩
theorem KV.put {kvs:List (κ×V)}{vs:List (κ×Value)}(r:KV kvs vs)(k:κ){y:V}{u:Value}(ry:zav y u):KV (putK kvs k y) (stored vs k u):=by
 unfold putK stored
 rw[r.any k]
 by_cases e:(vs.any fun kv=>decide (kv.1=k))=true
 ·rw[if_pos e,if_pos e]; exact r.repl k ry
 ·rw[if_neg e,if_neg e]; exact Paired.snoc r ⟨rfl,ry⟩
theorem KV.drop {kvs:List (κ×V)}{vs:List (κ×Value)}(r:KV kvs vs)(k:κ):KV (zpt kvs k) (without vs k):=by
 unfold KV at r ⊢
 unfold zpt without
 induction r with
 | nil=>exact .nil
 | @cons p q ps qs h t ih=>
  obtain⟨h1,h2⟩:=h
  rw[List.filter_cons,List.filter_cons]
  by_cases e:p.1=k
  ·have a:¬ decide (p.1≠k)=true:=by simp[e]
   have b:¬ decide (q.1≠k)=true:=by simp[h1.symm.trans e]
   rw[if_neg a,if_neg b]; exact ih
  ·have e':¬ q.1=k:=fun z=>e (h1.trans z)
   have a:decide (p.1≠k)=true:=by simp[e]
   have b:decide (q.1≠k)=true:=by simp[e']
   rw[if_pos a,if_pos b]; exact .cons ⟨h1,h2⟩ ih
theorem KV.keys {kvs:List (κ×V)}{vs:List (κ×Value)}(r:KV kvs vs):kvs.map (·.1)=vs.map (·.1):=by
 unfold KV at r
 induction r with
 | nil=>rfl
 | cons h t ih=>rw[List.map_cons,List.map_cons,ih,h.1]
theorem KV.length {kvs:List (κ×V)}{vs:List (κ×Value)}(r:KV kvs vs):kvs.length=vs.length:=Paired.length r
end


abbrev KT (H:Hp):List (List Key×V)→List (List Key×Addr×Value)→Prop:=Paired fun p q=>p.1=q.1∧H q.2.1=some (.tup (p.1.map kV))∧zav p.2 q.2.2
theorem KT.val {H:Hp}{kvs:List (List Key×V)}{xs:List (List Key×Addr×Value)}(r:KT H kvs xs)(k:List Key):zbR (zb5 kvs k) ((atKey xs k).map (·.2)):=by
 induction r with
 | nil=>exact True.intro
 | @cons p q ps qs h t ih=>
  obtain⟨h1,_,h2⟩:=h
  by_cases e:p.1=k
  ·have e':q.1=k:=h1.symm.trans e
   have b:atKey (q::qs) k=some q.2:=by simp[atKey,List.find?_cons,e']
   rw[zjP e,b]; exact h2
  ·have e':¬ q.1=k:=fun z=>e (h1.trans z)
   have b:atKey (q::qs) k=atKey qs k:=by simp[atKey,List.find?_cons,e']
   rw[zmp e,b]; exact ih
theorem KT.repl {H:Hp}{kvs:List (List Key×V)}{xs:List (List Key×Addr×Value)}(r:KT H kvs xs)(k:List Key){y:V}{u:Value}(ry:zav y u):
  KT H (kvs.map fun kv=>if kv.1=k then (kv.1,y) else kv) (xs.map (putAt k u)):=by
 induction r with
 | nil=>exact .nil
 | @cons p q ps qs h t ih=>
  rw[List.map_cons,List.map_cons]
  refine .cons ?_ ih
  obtain⟨h1,h2,h3⟩:=h
  unfold putAt
  by_cases e:p.1=k
  ·rw[if_pos e,if_pos (h1.symm.trans e)]; exact⟨h1,h2,ry⟩
  ·rw[if_neg e,if_neg (fun z=>e (h1.trans z))]; exact⟨h1,h2,h3⟩
theorem KT.put {H:Hp}{kvs:List (List Key×V)}{xs:List (List Key×Addr×Value)}(r:KT H kvs xs)(k:List Key){b:Addr}{y:V}{u:Value}(hb:H b=some (.tup (k.map kV)))(ry:zav y u):
  KT H (putK kvs k y) (storedH xs k b u):=by
 have e:(kvs.any fun kv=>decide (kv.1=k))=(atKey xs k).isSome:=by
  rw[zqc,(r.val k).isSome_eq,Option.isSome_map]
 unfold putK storedH
 rw[e]
 by_cases q:(atKey xs k).isSome=true
 ·rw[if_pos q,if_pos q]; exact r.repl k ry
 ·rw[if_neg q,if_neg q]; exact Paired.snoc r ⟨rfl,hb,ry⟩
theorem KT.keeps {H H':Hp}{kvs:List (List Key×V)}{xs:List (List Key×Addr×Value)}(r:KT H kvs xs)(ht:∀b ys,H b=some (.tup ys)→H' b=some (.tup ys)):KT H' kvs xs:=
 Paired.mapP r fun _ _ z=>⟨z.1,ht _ _ z.2.1,z.2.2⟩

section
variable {P:Program}{w:World}{H:Hp}{h:Heap}{a:Addr}
end

def zky (H:Hp)(a:Addr)(y:V)(r:Option V):Prop:=
 (∃kvs k,Rd H a (.dK kvs)∧y=kV k∧r=zb5 kvs k)∨∃kvs k b,Rd H a (.dT kvs)∧y=.ref b∧H b=some (.tup (k.map kV))∧r=zb5 kvs k
def zla (H:Hp)(a:Addr)(y v:V)(H':Hp):Prop:=
 (∃kvs k,H a=some (.dK kvs)∧y=kV k∧kvs.length < sizeLine∧H'=upd H a (.dK (putK kvs k v)))∨
 ∃kvs k b,H a=some (.dT kvs)∧y=.ref b∧H b=some (.tup (k.map kV))∧kvs.length < sizeLine∧H'=upd H a (.dT (putK kvs k v))
theorem zky.k {H:Hp}{a:Addr}{kvs:List (Key×V)}{k:Key}(e:H a=some (.dK kvs)):zky H a (kV k) (zb5 kvs k):=.inl ⟨kvs,k,.inl e,rfl,rfl⟩
theorem zky.t {H:Hp}{a b:Addr}{kvs:List (List Key×V)}{k:List Key}(e:H a=some (.dT kvs))(eb:H b=some (.tup (k.map kV))):zky H a (.ref b) (zb5 kvs k):=.inr ⟨kvs,k,b,.inl e,rfl,eb,rfl⟩
theorem zla.k {H:Hp}{a:Addr}{kvs:List (Key×V)}{k:Key}{v:V}(e:H a=some (.dK kvs))(hl:kvs.length < sizeLine):zla H a (kV k) v (upd H a (.dK (putK kvs k v))):=.inl ⟨kvs,k,e,rfl,hl,rfl⟩
theorem zla.t {H:Hp}{a b:Addr}{kvs:List (List Key×V)}{k:List Key}{v:V}(e:H a=some (.dT kvs))(eb:H b=some (.tup (k.map kV)))(hl:kvs.length < sizeLine):
  zla H a (.ref b) v (upd H a (.dT (putK kvs k v))):=.inr ⟨kvs,k,b,e,rfl,eb,hl,rfl⟩


section
variable {X:Cx}{pins:List (Addr×Obj)}{σ:St}{H:Hp}{s:Shared}{a:Addr}{y v:V}{u r:Value}{o:Option V}{A:Around}{E:Value→Shared→Prop}

theorem Inv.big (I:Inv X pins σ H s):sysModules < s.heap.objs.size:=by
 have h:mainGlobals < s.heap.objs.size:=(I.mod.glob.keeps I.bk).lt
 exact Nat.lt_trans (by decide) h

end

section
variable {X:Cx}{pins:List (Addr×Obj)}{σ:St}{H:Hp}{s:Shared}{a:Addr}{kvs:List (Key×V)}{k:Key}{u:Value}{A:Around}{E:Value→Shared→Prop}
end


section
variable {X:Cx}{o i e value:Expr}{pos pos' tpos:Pos}{td ty tv:TE}
end


section
variable {X:Cx}{pos:Pos}
end

structure M1 (X:Cx)(o:Expr)(m:Str)(apos:Pos)(e:Expr)(cpos:Pos):Prop where
 base:attributeBase o m X.env (eval o X.env)=eval o X.env
 few:((backTo cpos (starEach [e] X.env)).all (fun x=>!x.1) && (backToKw cpos (keywordEach [] X.env)).all (fun x=>x.1.isSome)
  && decide (([e]:List Expr).length + ([]:List Keyword).length + (if ([]:List Keyword).isEmpty then 0 else 1) < 30))=true
 line:(apos.endLine == cpos.line)=true
 trees:backTo cpos (starEach [e] X.env)=[(false,eval e X.env)]
structure M2 (X:Cx)(o:Expr)(m:Str)(apos:Pos)(e f:Expr)(cpos:Pos):Prop where
 base:attributeBase o m X.env (eval o X.env)=eval o X.env
 few:((backTo cpos (starEach [e,f] X.env)).all (fun x=>!x.1) && (backToKw cpos (keywordEach [] X.env)).all (fun x=>x.1.isSome)
  && decide (([e,f]:List Expr).length + ([]:List Keyword).length + (if ([]:List Keyword).isEmpty then 0 else 1) < 30))=true
 line:(apos.endLine == cpos.line)=true
 trees:backTo cpos (starEach [e,f] X.env)=[(false,eval e X.env),(false,eval f X.env)]

section
variable {X:Cx}{pins:List (Addr×Obj)}{σ:St}{H:Hp}{s:Shared}{a:Addr}{y d:V}{u r:Value}{o:Option V}{A:Around}{E:Value→Shared→Prop}
end

section
variable {X:Cx}{o e f:Expr}{apos cpos:Pos}{td ty tx:TE}
end

section
variable {X:Cx}{pins:List (Addr×Obj)}{σ:St}{H:Hp}{s:Shared}{a:Addr}{kvs:List (Key×V)}{A:Around}{E:Value→Shared→Prop}
end


section
variable {X:Cx}{pins:List (Addr×Obj)}{σ:St}{H:Hp}{s:Shared}{a:Addr}{y:V}{u:Value}{A:Around}{E:Value→Shared→Prop}
end
end L2

namespace L3
open PySem PySem.Spec PyProof.Rows L2

abbrev St:=L2.St
inductive D where
 | non | bl (b:Bool) | int (i:Int) | str (x:Str) | tup (xs:List D) | ref (n:Nat) | exc (c:Addr)
inductive Ob where
 | lst (xs:List D) | frz (xs:List D)
  | ins (C:Addr) (fs:List (Str×D))
  | dct (kvs:List (List Key×D))
abbrev Sto:=List Ob
abbrev Ev:=List (Option D)
abbrev DK:=D→Sto→Prop
abbrev TDE:=Ev→Sto→DK→Prop
abbrev TDT:=Ev→Sto→(Bool→Sto→Prop)→Prop
abbrev TDA:=Ev→Sto→(List D→Sto→Prop)→Prop
structure zdg where
 nx:Ev→Sto→Prop
 rt:DK
 bk:Ev→Sto→Prop:=fun _ _=>False
 ct:Ev→Sto→Prop:=fun _ _=>False
abbrev TDS:=zdg→Ev→Sto→Prop

def isX (a c:Addr):HO:=.ext fun h=>∃o,h.get? a=some o∧o.cls=.ref c
inductive Rp (r:List Addr)(H:Hp):D→V→Prop
 | non:Rp r H .non .non
 | bl (b:Bool):Rp r H (.bl b) (.bl b)
 | int (i:Int):Rp r H (.int i) (.int i)
 | str (x:Str):Rp r H (.str x) (.str x)
 | tup {ds:List D} {xs:List V} {a:Addr}:H a=some (.tup xs)→ds.length=xs.length→(∀(i:Nat) (d:D) (v:V),ds[i]?=some d→xs[i]?=some v→Rp r H d v)→Rp r H (.tup ds) (.ref a)
 | ref {n:Nat} {a:Addr}:r[n]?=some a→Rp r H (.ref n) (.ref a)
 | exc {c a:Addr}:H a=some (isX a c)→Rp r H (.exc c) (.ref a)
def Rps (r:List Addr)(H:Hp)(ds:List D)(vs:List V):Prop:=ds.length=vs.length∧∀(i:Nat) (d:D) (v:V),ds[i]?=some d→vs[i]?=some v→Rp r H d v
structure Ext (r r':List Addr)(H H':Hp):Prop where
 adr:∀(n:Nat) (a:Addr),r[n]?=some a→r'[n]?=some a
 tup:∀a xs,H a=some (.tup xs)→H' a=some (.tup xs)
 xc:∀a c,H a=some (isX a c)→H' a=some (isX a c)
section
variable {r r' r2:List Addr}{H H' H2:Hp}{d:D}{v:V}{ds:List D}{vs:List V}
theorem Ext.refl:Ext r r H H:=⟨fun _ _ h=>h,fun _ _ h=>h,fun _ _ h=>h⟩
theorem Ext.trans (a:Ext r r' H H')(b:Ext r' r2 H' H2):Ext r r2 H H2:=⟨fun n x h=>b.adr n x (a.adr n x h),fun x y h=>b.tup x y (a.tup x y h),fun x y h=>b.xc x y (a.xc x y h)⟩
theorem Rp.ext (h:Rp r H d v)(e:Ext r r' H H'):Rp r' H' d v:=by
 induction h with
 | non=>exact .non
 | bl b=>exact .bl b
 | int i=>exact .int i
 | str x=>exact .str x
 | tup h l _ ih=>exact .tup (e.tup _ _ h) l ih
 | ref h=>exact .ref (e.adr _ _ h)
 | exc h=>exact .exc (e.xc _ _ h)
theorem Rps.ext (h:Rps r H ds vs)(e:Ext r r' H H'):Rps r' H' ds vs:=⟨h.1,fun i d v h1 h2=>(h.2 i d v h1 h2).ext e⟩
theorem Rps.nil:Rps r H [] []:=⟨rfl,fun i d v h=>by simp at h⟩
theorem Rps.cons (h:Rp r H d v)(t:Rps r H ds vs):Rps r H (d::ds) (v::vs):=by
 refine⟨by simp[t.1],fun i x y h1 h2=>?_⟩
 cases i with
 | zero=>
  simp at h1 h2
  subst h1; subst h2
  exact h
 | succ i=>exact t.2 i x y (by simpa using h1) (by simpa using h2)
theorem Rps.tail {y:V}(h:Rps r H (d::ds) (y::vs)):Rp r H d y∧Rps r H ds vs:=
 ⟨h.2 0 d y rfl rfl,by simpa using h.1,fun i a b h1 h2=>h.2 (i + 1) a b (by simpa using h1) (by simpa using h2)⟩
theorem Rps.uncons (h:Rps r H (d::ds) vs):∃v vs',vs=v::vs'∧Rp r H d v∧Rps r H ds vs':=by
 cases vs with
 | nil=>exact absurd h.1 (by simp)
 | cons v vs'=>exact⟨v,vs',rfl,h.tail⟩
theorem Rps.unnil (h:Rps r H [] vs):vs=[]:=by
 cases vs with
 | nil=>rfl
 | cons v vs'=>exact absurd h.1 (by simp)
theorem Rps.get {i:Nat}(h:Rps r H ds vs)(e:ds[i]?=some d):∃v,vs[i]?=some v∧Rp r H d v:=by
 have hi:i < ds.length:=(List.getElem?_eq_some_iff.mp e).1
 have hv:i < vs.length:=by rw[← h.1]; exact hi
 exact⟨vs[i],by simp[hv],h.2 i d vs[i] e (by simp[hv])⟩
theorem Rps.get' {i:Nat}(h:Rps r H ds vs)(e:vs[i]?=some v):∃d,ds[i]?=some d∧Rp r H d v:=by
 have hv:i < vs.length:=(List.getElem?_eq_some_iff.mp e).1
 have hi:i < ds.length:=by rw[h.1]; exact hv
 exact⟨ds[i],by simp[hi],h.2 i ds[i] v (by simp[hi]) e⟩
theorem Rps.snoc (h:Rps r H ds vs)(t:Rp r H d v):Rps r H (ds++[d]) (vs++[v]):=by
 refine⟨by simp[h.1],fun i x y h1 h2=>?_⟩
 by_cases hi:i < ds.length
 ·rw[List.getElem?_append_left hi] at h1
  rw[List.getElem?_append_left (by rw[← h.1]; exact hi)] at h2
  exact h.2 i x y h1 h2
 ·have hl:i < (ds++[d]).length:=(List.getElem?_eq_some_iff.mp h1).1
  have e:i=ds.length:=by simp at hl; omega
  subst e
  rw[List.getElem?_append_right (Nat.le_refl _)] at h1
  rw[h.1,List.getElem?_append_right (Nat.le_refl _)] at h2
  simp at h1 h2
  subst h1; subst h2
  exact t
theorem Rps.tupR {a:Addr}(h:Rps r H ds vs)(e:H a=some (.tup vs)):Rp r H (.tup ds) (.ref a):=.tup e h.1 h.2
theorem Rp.untup {vs:V}(h:Rp r H (.tup ds) vs):∃a xs,vs=.ref a∧H a=some (.tup xs)∧Rps r H ds xs:=by
 cases h with
 | tup e l f=>exact⟨_,_,rfl,e,l,f⟩
end

def SqF (K:PySem.W.Frag)(H:Hp)(a:Addr)(xs:List V):Prop:=
 (∃o,H a=some (.frz o (.lst xs)))∨
  ∃(o:Obj) (its:Array Value) (n:Nat),K.lookup a=some o∧o.cls=.type "list"∧o.dict=none∧o.data=.seq its n∧its.size≤sizeLine∧zat xs its.toList
theorem SqF.sql {K:PySem.W.Frag}{H:Hp}{a:Addr}{xs:List V}(h:SqF K H a xs):SqL K H a xs:=by
 rcases h with ⟨o,h⟩ | h
 ·exact .inl (.inr ⟨o,h⟩)
 ·exact .inr h
def FR {α:Type}(r:List Addr)(H:Hp)(fs:List (α×D))(fs':List (α×V)):Prop:=fs.map (·.1)=fs'.map (·.1)∧Rps r H (fs.map (·.2)) (fs'.map (·.2))
theorem FR.ext {α:Type}{r r':List Addr}{H H':Hp}{fs:List (α×D)}{fs':List (α×V)}(h:FR r H fs fs')(e:Ext r r' H H'):FR r' H' fs fs':=⟨h.1,h.2.ext e⟩
theorem FR.nil {α:Type}{r:List Addr}{H:Hp}:FR (α:=α) r H [] []:=⟨rfl,Rps.nil⟩
def ObR (K:PySem.W.Frag)(r:List Addr)(H:Hp)(a:Addr):Ob→Prop
 | .lst ds=>∃xs,H a=some (.lst xs)∧Rps r H ds xs
 | .frz ds=>∃xs,SqF K H a xs∧Rps r H ds xs
 | .ins C fs=>∃dx fs',H a=some (.ins C dx fs')∧FR r H fs fs'
 | .dct kvs=>∃kvs',H a=some (.dT kvs')∧FR r H kvs kvs'
def zd0:Ob→Bool
 | .frz _=>false
 | _=>true
structure zaU (K:PySem.W.Frag)(r:List Addr)(S:Sto)(H:Hp):Prop where
 len:r.length=S.length
 ob:∀(n:Nat) (a:Addr) (o:Ob),r[n]?=some a→S[n]?=some o→ObR K r H a o
 nd:∀(n m:Nat) (a:Addr) (o u:Ob),r[n]?=some a→r[m]?=some a→S[n]?=some o→S[m]?=some u→zd0 o=true→zd0 u=true→n=m
def zai:Ob→List D
 | .lst ds=>ds
 | .frz ds=>ds
 | _=>[.exc 0]
def zbU:Ob→Option Ob
 | .lst ds=>some (.lst ds)
 | .frz ds=>some (.frz ds)
 | _=>none
def lAt (S:Sto)(n:Nat):Option Ob:=(S[n]?).bind zbU
theorem zul {o u:Ob}(h:zbU o=some u):u=o:=by
 cases o <;> simp[zbU] at h <;> exact h.symm
theorem zbt {S:Sto}{n:Nat}{o:Ob}(h:lAt S n=some o):S[n]?=some o∧zbU o=some o:=by
  unfold lAt at h
  cases q:S[n]? with
  | none=>
   rw[q] at h
   cases h
  | some u=>
    rw[q] at h
    have h':zbU u=some o:=h
    have e:=zul h'
    subst e
    exact⟨rfl,h'⟩
theorem zaC {S:Sto}{n:Nat}{o:Ob}(h:S[n]?=some o)(hL:zbU o=some o):lAt S n=some o:=by
 unfold lAt
 rw[h]
 exact hL
section
variable {K:PySem.W.Frag}{r r':List Addr}{S:Sto}{H H':Hp}{n:Nat}{a p:Addr}
theorem zaU.at {o:Ob}(h:zaU K r S H)(e:S[n]?=some o):∃a,r[n]?=some a∧ObR K r H a o:=by
 have hn:n < S.length:=(List.getElem?_eq_some_iff.mp e).1
 have hr:n < r.length:=by rw[h.len]; exact hn
 exact⟨r[n],by simp[hr],h.ob n r[n] o (by simp[hr]) e⟩
theorem ObR.list {o:Ob}(h:ObR K r H a o)(hL:zbU o=some o):∃xs,SqL K H a xs∧Rps r H (zai o) xs:=by
 cases o with
 | lst ds=>obtain⟨xs,e,q⟩:=h; exact⟨xs,SqL.of e,q⟩
 | frz ds=>obtain⟨xs,e,q⟩:=h; exact⟨xs,e.sql,q⟩
 | ins C fs=>cases hL
 | dct kvs=>cases hL
theorem ObR.keep {o:Ob}(q:ObR K r H a o)(x:Ext r r' H H')(ha:∀u,H a=some u→H' a=some u):ObR K r' H' a o:=by
 cases o with
 | lst ds=>obtain⟨xs,h3,h4⟩:=q; exact⟨xs,ha _ h3,h4.ext x⟩
 | frz ds=>
  obtain⟨xs,h3,h4⟩:=q
  refine⟨xs,?_,h4.ext x⟩
  rcases h3 with ⟨o,h3⟩ | h3
  ·exact .inl ⟨o,ha _ h3⟩
  ·exact .inr h3
 | ins C fs=>obtain⟨dx,fs',h3,h4⟩:=q; exact⟨dx,fs',ha _ h3,h4.ext x⟩
 | dct kvs=>obtain⟨ks,h3,h4⟩:=q; exact⟨ks,ha _ h3,h4.ext x⟩
theorem ObR.own {o:Ob}(q:ObR K r H a o)(h:zd0 o=true):∃u,H a=some u∧(∀xs,u≠HO.tup xs)∧(∀b c,u≠isX b c)∧∀z y,u≠HO.frz z y:=by
 cases o with
 | lst ds=>obtain⟨xs,h3,h4⟩:=q; exact⟨_,h3,(fun _ z=>by cases z),(fun _ _ z=>by cases z),(fun _ _ z=>by cases z)⟩
 | frz ds=>cases h
 | ins C fs=>obtain⟨dx,fs',h3,h4⟩:=q; exact⟨_,h3,(fun _ z=>by cases z),(fun _ _ z=>by cases z),(fun _ _ z=>by cases z)⟩
 | dct kvs=>obtain⟨ks,h3,h4⟩:=q; exact⟨_,h3,(fun _ z=>by cases z),(fun _ _ z=>by cases z),(fun _ _ z=>by cases z)⟩
theorem zaU.same (h:zaU K r S H)(e:∀b o,H b=some o→H' b=some o):zaU K r S H':=
 ⟨h.len,fun n a o h1 h2=>(h.ob n a o h1 h2).keep ⟨fun _ _ q=>q,fun a xs q=>e _ _ q,fun a c q=>e _ _ q⟩ (e a),h.nd⟩
theorem zc4 {o:HO}(h:H p=none):∀b u,H b=some u→(upd H p o) b=some u:=fun b u q=>by rw[za2 (zdv q h)]; exact q
theorem zi0 {n:Nat}{b:Addr}(e:(r++[p])[n]?=some b):(n < r.length∧r[n]?=some b)∨(n=r.length∧b=p):=by
 by_cases hn:n < r.length
 ·rw[List.getElem?_append_left hn] at e; exact .inl ⟨hn,e⟩
 ·have hl:n < (r++[p]).length:=(List.getElem?_eq_some_iff.mp e).1
  have en:n=r.length:=by simp at hl; omega
  subst en
  rw[List.getElem?_append_right (Nat.le_refl _)] at e
  simp at e
  exact .inr ⟨rfl,e.symm⟩
theorem zaU.pushO {o:Ob}(h:zaU K r S H)(hp:H p=none)(keep:∀b u,H b=some u→H' b=some u)(q:Ext r (r++[p]) H H'→ObR K (r++[p]) H' p o):zaU K (r++[p]) (S++[o]) H'∧Ext r (r++[p]) H H':=by
 have x:Ext r (r++[p]) H H':=⟨fun n a e=>by
  have hn:n < r.length:=(List.getElem?_eq_some_iff.mp e).1
  rw[List.getElem?_append_left hn]; exact e,fun a ys e=>keep _ _ e,fun a c e=>keep _ _ e⟩
 have sS:∀ {n:Nat} {u:Ob},n < r.length→(S++[o])[n]?=some u→S[n]?=some u:=fun {n u} hn e=>by
  rw[List.getElem?_append_left (by rw[← h.len]; exact hn)] at e; exact e
 refine⟨⟨by simp[h.len],fun n a u h1 h2=>?_,fun n m a u w h1 h2 h3 h4 o1 o2=>?_⟩,x⟩
 ·rcases zi0 h1 with ⟨hn,e⟩ | ⟨rfl,rfl⟩
  ·exact(h.ob n a u e (sS hn h2)).keep x (keep a)
  ·rw[h.len,List.getElem?_append_right (Nat.le_refl _)] at h2
   simp at h2
   subst h2
   exact q x
 ·rcases zi0 h1 with ⟨hn,e⟩ | ⟨rfl,rfl⟩
  ·rcases zi0 h2 with ⟨hm,e'⟩ | ⟨rfl,rfl⟩
   ·exact h.nd n m a u w e e' (sS hn h3) (sS hm h4) o1 o2
   ·obtain⟨zs,h5,_⟩:=(h.ob n _ _ e (sS hn h3)).own o1
    rw[hp] at h5; cases h5
  ·rcases zi0 h2 with ⟨hm,e'⟩ | ⟨rfl,_⟩
   ·obtain⟨zs,h5,_⟩:=(h.ob m _ _ e' (sS hm h4)).own o2
    rw[hp] at h5; cases h5
   ·rfl
theorem zaU.push {ds:List D}{xs:List V}(h:zaU K r S H)(hp:H p=none)(q:Rps r H ds xs):zaU K (r++[p]) (S++[.lst ds]) (upd H p (.lst xs))∧Ext r (r++[p]) H (upd H p (.lst xs)):=
 h.pushO hp (zc4 hp) fun x=>⟨xs,zcC,q.ext x⟩
theorem zaU.setO {o o':Ob}{u:HO}(h:zaU K r S H)(hn:r[n]?=some a)(hS:S[n]?=some o)(ho:zd0 o=true)(ho':zd0 o'=true)(q:Ext r r H (upd H a u)→ObR K r (upd H a u) a o'):zaU K r (S.set n o') (upd H a u)∧Ext r r H (upd H a u):=by
 obtain⟨u0,h0,t1,t2,t3⟩:=(h.ob n a _ hn hS).own ho
 have x:Ext r r H (upd H a u):=⟨fun _ _ e=>e,fun b zs e=>by
  rw[za2 (zoG e h0 (fun z=>t1 zs z.symm))]; exact e,fun b c e=>by
  rw[za2 (zoG e h0 (fun z=>t2 b c z.symm))]; exact e⟩
 have hlt:n < S.length:=(List.getElem?_eq_some_iff.mp hS).1
 have off:∀ {m:Nat} {w:Ob},m≠n→(S.set n o')[m]?=some w→S[m]?=some w:=fun {m w} hm e=>by
  rw[List.getElem?_set_ne (Ne.symm hm)] at e; exact e
 refine⟨⟨by simp[h.len],fun m b w h1 h2=>?_,fun m k b w y h1 h2 h3 h4 o1 o2=>?_⟩,x⟩
 ·by_cases hm:m=n
  ·subst hm
   rw[hn] at h1; cases h1
   rw[List.getElem?_set_self hlt] at h2
   cases h2
   exact q x
  ·have h2':=off hm h2
   have q':=h.ob m b w h1 h2'
   by_cases hw:zd0 w=true
   ·have hb:b≠a:=fun z=>hm (by subst z; exact h.nd m n b w o h1 hn h2' hS hw ho)
    exact q'.keep x fun z e=>by rw[za2 hb]; exact e
   ·cases w with
    | frz es=>
     obtain⟨zs,h3,h4⟩:=q'
     refine⟨zs,?_,h4.ext x⟩
     rcases h3 with ⟨z,h3⟩ | h3
     ·exact .inl ⟨z,by rw[za2 (zoG h3 h0 (fun y=>t3 _ _ y.symm))]; exact h3⟩
     ·exact .inr h3
    | _=>exact absurd rfl hw
 ·have back:∀ {j:Nat} {w:Ob},(S.set n o')[j]?=some w→zd0 w=true→∃y,S[j]?=some y∧zd0 y=true:=fun {j w} e ow=>by
   by_cases hj:j=n
   ·subst hj; exact⟨o,hS,ho⟩
   ·exact⟨w,off hj e,ow⟩
  obtain⟨us',h3',q3⟩:=back h3 o1
  obtain⟨ws',h4',q4⟩:=back h4 o2
  exact h.nd m k b us' ws' h1 h2 h3' h4' q3 q4
theorem zaU.set {ds ds':List D}{xs:List V}(h:zaU K r S H)(hn:r[n]?=some a)(hS:S[n]?=some (.lst ds))(q:Rps r H ds' xs):zaU K r (S.set n (.lst ds')) (upd H a (.lst xs))∧Ext r r H (upd H a (.lst xs)):=
 h.setO hn hS rfl rfl fun x=>⟨xs,zcC,q.ext x⟩
end

def Rs (r:List Addr)(H:Hp)(dl:Ev)(σ:St):Prop:=dl.length=σ.length∧∀(i:Nat) (d:D),dl[i]?=some (some d)→∃v,σ[i]?=some (some v)∧Rp r H d v
theorem Rs.ext {r r':List Addr}{H H':Hp}{dl:Ev}{σ:St}(h:Rs r H dl σ)(e:Ext r r' H H'):Rs r' H' dl σ:=⟨h.1,fun i d q=>by
 obtain⟨v,h1,h2⟩:=h.2 i d q
 exact⟨v,h1,h2.ext e⟩⟩
theorem Rs.set {r:List Addr}{H:Hp}{dl:Ev}{σ:St}{d:D}{v:V}(i:Nat)(h:Rs r H dl σ)(q:Rp r H d v):Rs r H (dl.set i (some d)) (σ.set i (some v)):=by
 refine⟨by simp[h.1],fun j e hj=>?_⟩
 by_cases hij:i=j
 ·subst hij
  have hl:i < dl.length:=by
   have:=(List.getElem?_eq_some_iff.mp hj).1
   simpa using this
  rw[List.getElem?_set_self hl] at hj
  cases hj
  exact⟨v,by rw[List.getElem?_set_self (by rw[← h.1]; exact hl)],q⟩
 ·rw[List.getElem?_set_ne hij] at hj
  obtain⟨v',h1,h2⟩:=h.2 j e hj
  exact⟨v',by rw[List.getElem?_set_ne hij]; exact h1,h2⟩
structure Zx where
 ex:Ev→Addr→Sto→Prop
 w:St→XK
abbrev Zc (ex:Addr→Sto→Prop)(E:XK):Zx:=⟨fun _=>ex,fun _=>E⟩
def zep (K:PySem.W.Frag)(Z:Zx)(r:List Addr)(H:Hp):Prop:=∀(dl:Ev) (σ:St) (c:Addr) (H':Hp) (r':List Addr) (S':Sto),Ext r r' H H'→Rs r' H' dl σ→zaU K r' S' H'→Z.ex dl c S'→Z.w σ (.ref c) none H'
theorem zep.ext {K:PySem.W.Frag}{Z:Zx}{r r':List Addr}{H H':Hp}(h:zep K Z r H)(e:Ext r r' H H'):zep K Z r' H':=fun dl σ c H2 r2 S2 x=>h dl σ c H2 r2 S2 (e.trans x)
structure Rel (K:PySem.W.Frag)(Z:Zx)(r:List Addr)(S:Sto)(H:Hp):Prop where
 b:zaU K r S H
 xw:zep K Z r H
section
variable {K:PySem.W.Frag}{Z:Zx}{r r':List Addr}{S:Sto}{H H':Hp}{n:Nat}{a p:Addr}
theorem Rel.len (h:Rel K Z r S H):r.length=S.length:=h.b.len
theorem Rel.at {o:Ob}(h:Rel K Z r S H)(e:S[n]?=some o):∃a,r[n]?=some a∧ObR K r H a o:=h.b.at e
theorem Rel.same (h:Rel K Z r S H)(e:∀b o,H b=some o→H' b=some o):Rel K Z r S H':=⟨h.b.same e,h.xw.ext ⟨fun _ _ q=>q,fun a xs q=>e _ _ q,fun a c q=>e _ _ q⟩⟩
theorem Rel.push {ds:List D}{xs:List V}(h:Rel K Z r S H)(hp:H p=none)(q:Rps r H ds xs):Rel K Z (r++[p]) (S++[.lst ds]) (upd H p (.lst xs))∧Ext r (r++[p]) H (upd H p (.lst xs)):=by
 obtain⟨h1,h2⟩:=h.b.push hp q
 exact⟨⟨h1,h.xw.ext h2⟩,h2⟩
theorem Rel.set {ds ds':List D}{xs:List V}(h:Rel K Z r S H)(hn:r[n]?=some a)(hS:S[n]?=some (.lst ds))(q:Rps r H ds' xs):Rel K Z r (S.set n (.lst ds')) (upd H a (.lst xs))∧Ext r r H (upd H a (.lst xs)):=by
 obtain⟨h1,h2⟩:=h.b.set hn hS q
 exact⟨⟨h1,h.xw.ext h2⟩,h2⟩
end

def Ret (K:PySem.W.Frag)(Z:Zx)(r:List Addr)(H:Hp)(Q:DK)(Qv:VK):Prop:=∀v H' r' d S',Ext r r' H H'→Rel K Z r' S' H'→Rp r' H' d v→Q d S'→Qv v H'
theorem Ret.ext {K:PySem.W.Frag}{Z:Zx}{r r':List Addr}{H H':Hp}{Q:DK}{Qv:VK}(h:Ret K Z r H Q Qv)(e:Ext r r' H H'):Ret K Z r' H' Q Qv:=fun v H2 r2 d S2 x=>h v H2 r2 d S2 (e.trans x)
def up (K:PySem.W.Frag)(Z:Zx)(t:TDE):TE:=fun σ H Qv=>∃r dl S Q,Rs r H dl σ∧Rel K Z r S H∧t dl S Q∧Ret K Z r H Q Qv
def upT (K:PySem.W.Frag)(Z:Zx)(t:TDT):TT:=fun σ H Qb=>∃r dl S Q,Rs r H dl σ∧Rel K Z r S H∧t dl S Q∧∀b H' r' S',Ext r r' H H'→Rel K Z r' S' H'→Q b S'→Qb b H'
def upA (K:PySem.W.Frag)(Z:Zx)(t:TDA):TA:=fun σ H Qv=>∃r dl S Q,Rs r H dl σ∧Rel K Z r S H∧t dl S Q∧∀vs H' r' ds S',Ext r r' H H'→Rel K Z r' S' H'→Rps r' H' ds vs→Q ds S'→Qv vs H'
structure zjT (K:PySem.W.Frag)(Z:Zx)(r:List Addr)(H:Hp)(E:zdg)(F:zdJ):Prop where
 nx:∀σ' H' r' dl' S',Ext r r' H H'→Rs r' H' dl' σ'→Rel K Z r' S' H'→E.nx dl' S'→F.nx σ' H'
 bk:∀σ' H' r' dl' S',Ext r r' H H'→Rs r' H' dl' σ'→Rel K Z r' S' H'→E.bk dl' S'→F.bk σ' H'
 ct:∀σ' H' r' dl' S',Ext r r' H H'→Rs r' H' dl' σ'→Rel K Z r' S' H'→E.ct dl' S'→F.ct σ' H'
 rt:Ret K Z r H E.rt F.rt
theorem zjT.ext {K:PySem.W.Frag}{Z:Zx}{r r':List Addr}{H H':Hp}{E:zdg}{F:zdJ}(h:zjT K Z r H E F)(e:Ext r r' H H'):zjT K Z r' H' E F:=
 ⟨fun a b c d f x=>h.nx a b c d f (e.trans x),fun a b c d f x=>h.bk a b c d f (e.trans x),fun a b c d f x=>h.ct a b c d f (e.trans x),h.rt.ext e⟩
def upS (K:PySem.W.Frag)(Z:Zx)(t:TDS):TS:=fun F σ H=>∃r dl S E,Rs r H dl σ∧Rel K Z r S H∧t E dl S∧zjT K Z r H E F

def PD (X:Cx)(Z:Zx)(e:Expr)(t:TDE):Prop:=PE X e (up X.K Z t)
def PDT (X:Cx)(Z:Zx)(e:Expr)(t:TDT):Prop:=PT X e (upT X.K Z t)
def PDW (X:Cx)(Z:Zx)(e:Expr)(t:TDT):Prop:=PW X e (upT X.K Z t)
def PDA (X:Cx)(Z:Zx)(es:List Expr)(t:TDA):Prop:=PA X es (upA X.K Z t)
def PDS (X:Cx)(Z:Zx)(st:Stmt)(t:TDS):Prop:=PS X st (upS X.K Z t)
def zcJ (X:Cx)(Z:Zx)(st:List Stmt)(t:TDS):Prop:=PSs X st (upS X.K Z t)

section
variable {X:Cx}{Z:Zx}
theorem za8 {e:Expr}{t t':TE}(h:PE X e t)(f:∀σ H Q,t' σ H Q→t σ H Q):PE X e t':=fun pins s σ H Q I q=>h pins s σ H Q I (f σ H Q q)
theorem zko {e:Expr}{t t':TT}(h:PT X e t)(f:∀σ H Q,t' σ H Q→t σ H Q):PT X e t':=fun pins s σ H Q I q=>h pins s σ H Q I (f σ H Q q)
theorem zqt {e:Expr}{t t':TT}(h:PW X e t)(f:∀σ H Q,t' σ H Q→t σ H Q):PW X e t':=fun wh pins s σ H Q I q=>h wh pins s σ H Q I (f σ H Q q)
theorem zq6 {e:List Expr}{t t':TA}(h:PA X e t)(f:∀σ H Q,t' σ H Q→t σ H Q):PA X e t':=fun pos pins s σ H Q I q=>h pos pins s σ H Q I (f σ H Q q)
theorem zb7 {e:Stmt}{t t':TS}(h:PS X e t)(f:∀F σ H,t' F σ H→t F σ H):PS X e t':=fun pins s σ H F I q=>h pins s σ H F I (f F σ H q)
theorem zoR {e:List Stmt}{t t':TS}(h:PSs X e t)(f:∀F σ H,t' F σ H→t F σ H):PSs X e t':=fun pins s σ H F I q=>h pins s σ H F I (f F σ H q)
theorem PDW.pt {e:Expr}{t:TDT}(h:PDW X Z e t):PDT X Z e t:=PW.pt h

def zcz (i:Nat):TDE:=fun dl S Q=>match dl[i]? with
 | some (some d)=>Q d S
 | _=>False
def dC (d:D):TDE:=fun _ S Q=>Q d S
theorem zx8 {e:Expr}{i:Nat}(h:PE X e (tVar i)):PD X Z e (zcz i):=za8 h fun σ H Qv ⟨r,dl,S,Q,rs,rel,q,ret⟩=>by
 unfold zcz at q
 split at q
 ·rename_i d e
  obtain⟨v,h1,h2⟩:=rs.2 i d e
  exact⟨v,h1,ret v H r d S Ext.refl rel h2 q⟩
 ·exact q.elim
theorem dv (i:Nat){x:Str}{pos:Pos}(hN:X.N[i]?=some x:=by rfl)(hv:Vis X.env.scope x:=by first | exact Or.inl rfl | exact Or.inr (Or.inl rfl) | exact Or.inr (Or.inr rfl))(hd:(x == ("__debug__":Str))=false:=by decide)
  (hcd:(x == ("__classdict__":Str))=false:=by decide):PD X Z (.Name x pos) (zcz i):=zx8 (zpo hN hv hd hcd)
theorem zjS {e:Expr}{d:D}{v:V}(h:PE X e (tC v))(q:∀r H,Rp r H d v):PD X Z e (dC d):=za8 h fun σ H Qv ⟨r,dl,S,Q,rs,rel,h,ret⟩=>ret v H r d S Ext.refl rel (q r H) h
theorem zac {i j pos}:PD X Z (.Constant (.int i) j pos) (dC (.int i)):=zjS zwV fun _ _=>.int i
theorem zck {b j pos}:PD X Z (.Constant (.bool b) j pos) (dC (.bl b)):=zjS pe_bl fun _ _=>.bl b
theorem zdz {j pos}:PD X Z (.Constant .none j pos) (dC .non):=zjS zvA fun _ _=>.non
theorem zbB {x j pos}:PD X Z (.Constant (.str x) j pos) (dC (.str x)):=zjS zsF fun _ _=>.str x

abbrev W2:=D→D→Sto→DK→Prop
abbrev W1:=D→Sto→DK→Prop
def upO (K:PySem.W.Frag)(Z:Zx)(w:W2):R2:=fun x y H Qv=>∃r S dx dy Q,Rel K Z r S H∧Rp r H dx x∧Rp r H dy y∧w dx dy S Q∧Ret K Z r H Q Qv
def upU (K:PySem.W.Frag)(Z:Zx)(w:W1):V→Hp→VK→Prop:=fun x H Qv=>∃r S dx Q,Rel K Z r S H∧Rp r H dx x∧w dx S Q∧Ret K Z r H Q Qv
def dOp (w:W2)(ta tb:TDE):TDE:=fun dl S Q=>ta dl S fun x S1=>tb dl S1 fun y S2=>w x y S2 Q
def dUn (w:W1)(ta:TDE):TDE:=fun dl S Q=>ta dl S fun x S1=>w x S1 Q
variable {a b c:Expr}{ta tb tc:TDE}{pos:Pos}
theorem zjX {w:W2}{σ:St}{H:Hp}{Qv:VK}(h:up X.K Z (dOp w ta tb) σ H Qv):tOp (upO X.K Z w) (up X.K Z ta) (up X.K Z tb) σ H Qv:=by
 obtain⟨r,dl,S,Q,rs,rel,h,ret⟩:=h
 exact⟨r,dl,S,_,rs,rel,h,fun v H1 r1 dx S1 e1 rel1 p1 h1=>⟨r1,dl,S1,_,rs.ext e1,rel1,h1,fun v2 H2 r2 dy S2 e2 rel2 p2 h2=>⟨r2,S2,dx,dy,Q,rel2,p1.ext e2,p2,h2,ret.ext (e1.trans e2)⟩⟩⟩
theorem zam {op:Operator}{w:W2}(ho:OpR X (binaryOp op) (upO X.K Z w))(ha:PD X Z a ta)(hb:PD X Z b tb):PD X Z (.BinOp a op b pos) (dOp w ta tb):=za8 (pe_op ho ha hb) fun _ _ _ h=>zjX h
theorem zoH {op:UnaryOp}{w:W1}(ho:UnR X (unaryOp op) (upU X.K Z w))(ha:PD X Z a ta):PD X Z (.UnaryOp op a pos) (dUn w ta):=za8 (pe_un ho ha) fun σ H Qv ⟨r,dl,S,Q,rs,rel,h,ret⟩=>
 ⟨r,dl,S,_,rs,rel,h,fun v H1 r1 dx S1 e1 rel1 p1 h1=>⟨r1,S1,dx,Q,rel1,p1,h1,ret.ext e1⟩⟩
theorem zc8 {op:CmpOp}{w:W2}(ho:OpR X (compareOp op) (upO X.K Z w))(ha:PD X Z a ta)(hb:PD X Z b tb)(hm:behindInMarks op b=false):PD X Z (.Compare a [op] [b] pos) (dOp w ta tb):=za8 (ztw ho ha hb hm) fun _ _ _ h=>zjX h
theorem zek {f:Value→Value→Sem Value}{r r':R2}(h:OpR X f r)(g:∀x y H Q,r' x y H Q→r x y H Q):OpR X f r':=fun pins s σ H x y v u Q I rx ry q=>h pins s σ H x y v u Q I rx ry (g x y H Q q)
theorem zvb {f:Value→Sem Value}{r r':V→Hp→VK→Prop}(h:UnR X f r)(g:∀x H Q,r' x H Q→r x H Q):UnR X f r':=fun pins s σ H x v Q I rx q=>h pins s σ H x v Q I rx (g x H Q q)
theorem znB {f:Value}{r r':List V→Hp→VK→Prop}(h:zbd X f r)(g:∀x H Q,r' x H Q→r x H Q):zbd X f r':=fun pins s σ H xs us Q I rx q=>h pins s σ H xs us Q I rx (g xs H Q q)
def wI (C:Int→Int→Prop)(g:Int→Int→D):W2:=fun x y S Q=>match x,y with
 | .int i,.int j=>C i j∧Q (g i j) S
 | _,_=>False
def wI0 (g:Int→Int→D):W2:=fun x y S Q=>match x,y with
 | .int i,.int j=>Q (g i j) S
 | _,_=>False
theorem opD {f:Value→Value→Sem Value}{C:Int→Int→Prop}{g:Int→Int→V}{g':Int→Int→D}(h:OpR X f (rI C g))(hg:∀r H i j,Rp r H (g' i j) (g i j)):OpR X f (upO X.K Z (wI C g')):=
 zek h fun x y H Qv ⟨r,S,dx,dy,Q,rel,px,py,q,ret⟩=>by
  cases px <;> cases py <;> first
   | exact⟨_,_,rfl,rfl,q.1,ret _ _ _ _ _ Ext.refl rel (hg _ _ _ _) q.2⟩
   | exact(show False from q).elim
theorem zhE {f:Value→Value→Sem Value}{g:Int→Int→V}{g':Int→Int→D}(h:OpR X f (rI0 g))(hg:∀r H i j,Rp r H (g' i j) (g i j)):OpR X f (upO X.K Z (wI0 g')):=
 zek h fun x y H Qv ⟨r,S,dx,dy,Q,rel,px,py,q,ret⟩=>by
  cases px <;> cases py <;> first
   | exact⟨_,_,rfl,rfl,ret _ _ _ _ _ Ext.refl rel (hg _ _ _ _) q⟩
   | exact(show False from q).elim
abbrev wAdd:W2:=wI0 fun i j=>.int (i + j)
abbrev wSub:W2:=wI0 fun i j=>.int (i - j)
abbrev zf8:W2:=wI IntMulOk fun i j=>.int (i * j)
def CFd (_ j:Int):Prop:=0 < j∧j.natAbs.log2 < 9000
abbrev wFdiv:W2:=wI CFd fun i j=>.int (i / j)
def CFn (_ j:Int):Prop:=j≠0∧j.natAbs.log2 < 9000
abbrev zr1:W2:=wI CFn fun i j=>.int (i.fdiv j)
abbrev wMod:W2:=wI (fun _ j=>0 < j) fun i j=>.int (i % j)
theorem zba:OpR X (binaryOp .Add) (upO X.K Z wAdd):=zhE zux fun _ _ _ _=>.int _
theorem zdE:OpR X (binaryOp .Sub) (upO X.K Z wSub):=zhE zt8 fun _ _ _ _=>.int _
theorem zaZ:OpR X (binaryOp .Mult) (upO X.K Z zf8):=opD (opI fun _ _ _ _ _ _ _ hc q=>mul_int q hc) fun _ _ _ _=>.int _
theorem zd1:OpR X (binaryOp .FloorDiv) (upO X.K Z wFdiv):=opD (opI fun i j _ _ _ _ _ hc q=>floordiv_int (by have h:0 < j:=hc.1; omega) (by have h:0 < j:=hc.1; rw[Int.fdiv_eq_ediv_of_nonneg i (by omega)]; exact q) (.inl (PyProof.noPylong_of_log2 hc.2))) fun _ _ _ _=>.int _
theorem zwI:OpR X (binaryOp .FloorDiv) (upO X.K Z zr1):=opD (opI fun _ _ _ _ _ _ _ hc q=>floordiv_int hc.1 q (.inl (PyProof.noPylong_of_log2 hc.2))) fun _ _ _ _=>.int _
theorem zee:OpR X (binaryOp .Mod) (upO X.K Z wMod):=opD zsR fun _ _ _ _=>.int _
abbrev wLt:W2:=wI0 fun i j=>.bl (decide (i < j))
abbrev wLe:W2:=wI0 fun i j=>.bl (decide (i≤j))
abbrev wGe:W2:=wI0 fun i j=>.bl (decide (j≤i))
theorem zeC:OpR X (compareOp .Lt) (upO X.K Z wLt):=zhE op_lt fun _ _ _ _=>.bl _
theorem zhh:OpR X (compareOp .LtE) (upO X.K Z wLe):=zhE op_le fun _ _ _ _=>.bl _
theorem do_ge:OpR X (compareOp .GtE) (upO X.K Z wGe):=zhE op_ge fun _ _ _ _=>.bl _
def wNeg:W1:=fun x S Q=>match x with
 | .int i=>Q (.int (-i)) S
 | _=>False
theorem znR:UnR X (unaryOp .USub) (upU X.K Z wNeg):=zvb zur fun x H Qv ⟨r,S,dx,Q,rel,px,q,ret⟩=>by
 cases px <;> first
  | exact⟨_,rfl,ret _ _ _ _ _ Ext.refl rel (.int _) q⟩
  | exact(show False from q).elim
end
end L3

namespace L3
open PySem PySem.Spec PyProof.Rows L2
def eqF:D→D→Option Bool
 | .non,.non=>some true
 | .bl i,.bl j=>some (i == j)
 | .int i,.int j=>some (decide (i=j))
 | .str i,.str j=>some (decide (i=j))
 | .non,.int _=>some false | .int _,.non=>some false | .non,.bl _=>some false | .bl _,.non=>some false | .non,.str _=>some false | .str _,.non=>some false
 | .int _,.str _=>some false | .str _,.int _=>some false | .bl _,.str _=>some false | .str _,.bl _=>some false
 | _,_=>none
def eqL (f:D→D→Option Bool):List D→List D→Option Bool
 | [],[]=>some true
 | x::xs,y::ys=>match f x y,eqL f xs ys with
  | some b,some c=>some (b && c)
  | _,_=>none
 | _,_=>some false
def eqT (f:D→D→Option Bool):D→D→Option Bool
 | .tup xs,.tup ys=>eqL f xs ys
 | x,y=>eqF x y
abbrev eq1:D→D→Option Bool:=eqT eqF
abbrev eq2:D→D→Option Bool:=eqT eq1
def zdF (n:Nat)(f:D→D→Option Bool):Prop:=∀(X:Cx) (pins:List (Addr×Obj)) (σ:St) (H:Hp) (s:Shared) (r:List Addr) (A:Around) (dx dy:D) (x y:V) (u v:Value) (b:Bool),
 Inv X pins σ H s→A.units + n < cLine→Rp r H dx x→Rp r H dy y→zav x u→zav y v→f dx dy=some b→SeqAt.EqAt A s u v b
def zfu (f:D→D→Option Bool):Prop:=∀(r:List Addr) (H:Hp) (dx dy:D) (x:V) (b:Bool),Rp r H dx x→Rp r H dy x→f dx dy=some b→b=true
theorem zfP:zfu eqF:=by
 intro r H dx dy x b px py e
 cases px <;> cases py <;> simp[eqF] at e <;> first | exact e.symm | exact e
theorem zqs {f:D→D→Option Bool}(hf:zfu f){r:List Addr}{H:Hp}:∀ {xs ys:List D} {vs:List V} {b:Bool},Rps r H xs vs→Rps r H ys vs→eqL f xs ys=some b→b=true
 | [],[],_,b,_,_,e=>by simp[eqL] at e; exact e
 | [],y::ys,vs,b,p,q,e=>by
  have h1:=p.unnil
  subst h1
  exact absurd q.1 (by simp)
 | x::xs,[],vs,b,p,q,e=>by
  have h1:=q.unnil
  subst h1
  exact absurd p.1 (by simp)
 | x::xs,y::ys,vs,b,p,q,e=>by
  obtain⟨v,vs',rfl,p1,p2⟩:=p.uncons
  obtain⟨q1,q2⟩:=q.tail
  unfold eqL at e
  split at e
  ·rename_i b1 c1 e1 e2
   have h1:=hf r H x y v b1 p1 q1 e1
   have h2:=zqs hf p2 q2 e2
   subst h1; subst h2
   simp at e
   exact e
  ·cases e
theorem zph {f:D→D→Option Bool}(hf:zfu f):zfu (eqT f):=by
 intro r H dx dy x b px py e
 cases px with
 | tup e1 l1 f1=>
  cases py with
  | tup e2 l2 f2=>
   rw[e1] at e2; cases e2
   exact zqs hf ⟨l1,f1⟩ ⟨l2,f2⟩ e
  | ref h=>simp[eqT,eqF] at e
  | exc h=>simp[eqT,eqF] at e
 | non=>exact zfP r H _ _ _ b .non py (by cases py <;> exact e)
 | bl i=>exact zfP r H _ _ _ b (.bl i) py (by cases py <;> exact e)
 | int i=>exact zfP r H _ _ _ b (.int i) py (by cases py <;> exact e)
 | str i=>exact zfP r H _ _ _ b (.str i) py (by cases py <;> exact e)
 | ref h=>cases py <;> simp[eqT,eqF] at e
 | exc h=>cases py <;> simp[eqT,eqF] at e
theorem zmT (n:Nat):zdF n eqF:=by
 intro X pins σ H s r A dx dy x y u v b I hu px py rx ry e
 have fin:∀ {x y:V},zav x u→zav y v→zkd x=true→zkd y=true→eqV x y=b→SeqAt.EqAt A s u v b:=fun rx ry fx fy e'=>by
  subst e'; exact zsa rx ry fx fy
 cases px <;> cases py <;> simp[eqF] at e <;> refine fin rx ry rfl rfl ?_ <;> simp[eqV,e] <;> first | exact e | (subst e; simp) | skip
theorem zeG {X:Cx}{pins:List (Addr×Obj)}{σ:St}{H:Hp}{s:Shared}{a:Addr}{xs:List V}(I:Inv X pins σ H s)(h:H a=some (.tup xs)):∃its:List Value,zat xs its∧IsTup s.heap a its.toArray∧xs.length≤sizeLine:=I.tuple (SqT.of h)
def zcm (f:D→D→Option Bool)(xs ys:List D)(j:Nat):Bool:=match xs[j]?,ys[j]? with
 | some x,some y=>(f x y).getD false
 | _,_=>false
theorem zoS {f:D→D→Option Bool}:∀ {xs ys:List D} {b:Bool},eqL f xs ys=some b→(∀(j:Nat) (x y:D),xs[j]?=some x→ys[j]?=some y→∃c,f x y=some c)∧((List.range (min xs.length ys.length)).all (zcm f xs ys) && xs.length == ys.length)=b
 | [],[],b,e=>by simp[eqL] at e; subst e; simp
 | [],y::ys,b,e=>by simp[eqL] at e; subst e; simp
 | x::xs,[],b,e=>by simp[eqL] at e; subst e; simp
 | x::xs,y::ys,b,e=>by
  unfold eqL at e
  split at e
  ·rename_i b1 c1 e1 e2
   obtain⟨h1,h2⟩:=zoS e2
   refine⟨fun j p q hp hq=>?_,?_⟩
   ·cases j with
    | zero=>simp at hp hq; subst hp; subst hq; exact⟨b1,e1⟩
    | succ j=>exact h1 j p q (by simpa using hp) (by simpa using hq)
   ·have z:min (x::xs).length (y::ys).length=min xs.length ys.length + 1:=by simp[Nat.succ_min_succ]
    rw[z,List.range_succ_eq_map,List.all_cons,List.all_map]
    have e0:zcm f (x::xs) (y::ys) 0=b1:=by simp[zcm,e1]
    have es:(zcm f (x::xs) (y::ys) ∘ Nat.succ)=zcm f xs ys:=by funext j; simp[zcm]
    rw[e0,es]
    have e3:((x::xs).length == (y::ys).length)=(xs.length == ys.length):=by simp
    rw[e3,Bool.and_assoc,h2]
    simp at e
    exact e
  ·cases e
theorem zeD {n:Nat}{f:D→D→Option Bool}(hf:zdF n f){X:Cx}{pins:List (Addr×Obj)}{σ:St}{H:Hp}{s:Shared}{r:List Addr}{A:Around}{xs ys:List D}{us vs:List V}{is js:List Value}{b:Bool}
  (I:Inv X pins σ H s)(hu:A.units + n < cLine)(p:Rps r H xs us)(q:Rps r H ys vs)(ri:zat us is)(rj:zat vs js)(e:eqL f xs ys=some b):
  (∀j (h1:j < is.toArray.size) (h2:j < js.toArray.size),SeqAt.EqAt A s is.toArray[j] js.toArray[j] (zcm f xs ys j))∧((List.range (min is.toArray.size js.toArray.size)).all (zcm f xs ys) && is.toArray.size == js.toArray.size)=b:=by
 obtain⟨h1,h2⟩:=zoS e
 have l1:is.toArray.size=xs.length:=by rw[List.size_toArray,← ri.length,p.1]
 have l2:js.toArray.size=ys.length:=by rw[List.size_toArray,← rj.length,q.1]
 refine⟨fun j hj1 hj2=>?_,by rw[l1,l2]; exact h2⟩
 have k1:j < xs.length:=by omega
 have k2:j < ys.length:=by omega
 have g1:xs[j]?=some xs[j]:=by simp[k1]
 have g2:ys[j]?=some ys[j]:=by simp[k2]
 obtain⟨x,gx,px⟩:=p.get g1
 obtain⟨y,gy,py⟩:=q.get g2
 obtain⟨u,gu,ru⟩:=ri.get gx
 obtain⟨v,gv,rv⟩:=rj.get gy
 obtain⟨c,hc⟩:=h1 j _ _ g1 g2
 have eu:is.toArray[j]=u:=by
  have z:=List.getElem?_eq_some_iff.mp gu
  simpa using z.2
 have ev:js.toArray[j]=v:=by
  have z:=List.getElem?_eq_some_iff.mp gv
  simpa using z.2
 have ec:zcm f xs ys j=c:=by simp[zcm,g1,g2,hc]
 rw[eu,ev,ec]
 exact hf X pins σ H s r A _ _ x y u v c I hu px py ru rv hc
theorem zqP {n:Nat}{f:D→D→Option Bool}(hf:zdF n f)(hs:zfu f):zdF (n + 1) (eqT f):=by
 intro X pins σ H s r A dx dy x y u v b I hu px py rx ry e
 have zaN:∀ {dx dy:D} {x y:V},Rp r H dx x→Rp r H dy y→zav x u→zav y v→eqF dx dy=some b→SeqAt.EqAt A s u v b:=fun px py rx ry e=>zmT (n + 1) X pins σ H s r A _ _ _ _ u v b I hu px py rx ry e
 cases px with
 | @tup ds xs a e1 l1 f1=>
  cases py with
  | @tup es ys a' e2 l2 f2=>
   cases rx
   cases ry
   by_cases z:a=a'
   ·subst z
    have hb:=zph hs r H _ _ _ b (.tup e1 l1 f1) (.tup e2 l2 f2) e
    subst hb
    exact SeqAt.EqAt.same _
   ·obtain⟨is,ri,ti,_⟩:=zeG I e1
    obtain⟨js,rj,tj,_⟩:=zeG I e2
    obtain⟨g1,g2⟩:=zeD (A:=A.in1) hf I (by show A.units + 1 + n < _; omega) ⟨l1,f1⟩ ⟨l2,f2⟩ ri rj e
    have q:=SeqAt.RcAt.tuples (A:=A) ti tj (by omega) g1
    rw[g2] at q
    exact SeqAt.EqAt.of_refs z q
  | ref h=>simp[eqT,eqF] at e
  | _=>simp[eqT,eqF] at e
 | non=>exact zaN .non py rx ry (by cases py <;> exact e)
 | bl i=>exact zaN (.bl i) py rx ry (by cases py <;> exact e)
 | int i=>exact zaN (.int i) py rx ry (by cases py <;> exact e)
 | str i=>exact zaN (.str i) py rx ry (by cases py <;> exact e)
 | ref h=>cases py <;> simp[eqT,eqF] at e
 | exc h=>cases py <;> simp[eqT,eqF] at e
theorem zpJ (n:Nat):zdF (n + 1) eq1:=zqP (zmT n) zfP
def wEq (f:D→D→Option Bool):W2:=fun x y S Q=>match f x y with
 | some b=>Q (.bl b) S
 | none=>False
def wNe (f:D→D→Option Bool):W2:=fun x y S Q=>match f x y with
 | some b=>Q (.bl (!b)) S
 | none=>False
section
variable {X:Cx}{Z:Zx}
theorem zqh {r:List Addr}{H:Hp}{dx dy:D}{x y:V}{b:Bool}(px:Rp r H dx x)(py:Rp r H dy y)(e:eqF dx dy=some b):zkP x y=true∧decide (x=y)=b:=by
 cases px <;> cases py <;> simp[eqF] at e <;> simp[zkP] <;> first | exact e | (subst e; simp) | skip
theorem zqT {n:Nat}{f:D→D→Option Bool}(hf:zdF n f)(hu:X.A.units + 1 + n < cLine):OpR X (compareOp .Eq) (upO X.K Z (wEq (eqT f))):=by
 intro pins s σ H x y v u Qv I rx ry h
 obtain⟨r,S,dx,dy,Q,rel,px,py,q,ret⟩:=h
 unfold wEq at q
 split at q
 ·rename_i b e
  have zaN:∀ {dx dy:D} {x y:V},Rp r H dx x→Rp r H dy y→zav x v→zav y u→eqF dx dy=some b→wpAny (model X.prog X.w) X.A (compareOp .Eq v u) (EP X pins σ Qv) X.xe s:=fun px py rx ry e=>by
   obtain⟨h1,h2⟩:=zqh px py e
   refine zoh pins s σ H _ _ v u Qv I rx ry ⟨h1,?_⟩
   rw[h2]
   exact ret _ _ _ _ _ Ext.refl rel (.bl b) q
  cases px with
  | @tup ds xs a e1 l1 f1=>
   cases py with
   | @tup es ys a' e2 l2 f2=>
    cases rx
    cases ry
    obtain⟨is,ri,ti,_⟩:=zeG I e1
    obtain⟨js,rj,tj,_⟩:=zeG I e2
    obtain⟨g1,g2⟩:=zeD (A:=X.A.in1) hf I (by show X.A.units + 1 + n < _; omega) ⟨l1,f1⟩ ⟨l2,f2⟩ ri rj e
    refine SeqAt.eq_tupleAt (A:=X.A) ti tj (by omega) g1 ?_
    rw[g2]
    exact⟨.bl b,H,I,rfl,ret _ _ _ _ _ Ext.refl rel (.bl b) q⟩
   | _=>simp[eqT,eqF] at e
  | non=>exact zaN .non py rx ry (by cases py <;> exact e)
  | bl i=>exact zaN (.bl i) py rx ry (by cases py <;> exact e)
  | int i=>exact zaN (.int i) py rx ry (by cases py <;> exact e)
  | str i=>exact zaN (.str i) py rx ry (by cases py <;> exact e)
  | ref h=>cases py <;> simp[eqT,eqF] at e
  | exc h=>cases py <;> simp[eqT,eqF] at e
 ·exact q.elim
theorem zqI {n:Nat}{f:D→D→Option Bool}(hf:zdF n f)(hu:X.A.units + 1 + n < cLine):OpR X (compareOp .NotEq) (upO X.K Z (wNe (eqT f))):=by
 intro pins s σ H x y v u Qv I rx ry h
 obtain⟨r,S,dx,dy,Q,rel,px,py,q,ret⟩:=h
 unfold wNe at q
 split at q
 ·rename_i b e
  have zaN:∀ {dx dy:D} {x y:V},Rp r H dx x→Rp r H dy y→zav x v→zav y u→eqF dx dy=some b→wpAny (model X.prog X.w) X.A (compareOp .NotEq v u) (EP X pins σ Qv) X.xe s:=fun px py rx ry e=>by
   obtain⟨h1,h2⟩:=zqh px py e
   refine op_ne pins s σ H _ _ v u Qv I rx ry ⟨h1,?_⟩
   rw[h2]
   exact ret _ _ _ _ _ Ext.refl rel (.bl (!b)) q
  cases px with
  | @tup ds xs a e1 l1 f1=>
   cases py with
   | @tup es ys a' e2 l2 f2=>
    cases rx
    cases ry
    obtain⟨is,ri,ti,_⟩:=zeG I e1
    obtain⟨js,rj,tj,_⟩:=zeG I e2
    obtain⟨g1,g2⟩:=zeD (A:=X.A.in1) hf I (by show X.A.units + 1 + n < _; omega) ⟨l1,f1⟩ ⟨l2,f2⟩ ri rj e
    refine SeqAt.RcNeAt.tuples (A:=X.A) ti tj (by omega) g1 X.prog X.w _ _ ?_
    rw[g2]
    exact⟨.bl (!b),H,I,rfl,ret _ _ _ _ _ Ext.refl rel (.bl (!b)) q⟩
   | _=>simp[eqT,eqF] at e
  | non=>exact zaN .non py rx ry (by cases py <;> exact e)
  | bl i=>exact zaN (.bl i) py rx ry (by cases py <;> exact e)
  | int i=>exact zaN (.int i) py rx ry (by cases py <;> exact e)
  | str i=>exact zaN (.str i) py rx ry (by cases py <;> exact e)
  | ref h=>cases py <;> simp[eqT,eqF] at e
  | exc h=>cases py <;> simp[eqT,eqF] at e
 ·exact q.elim
theorem zbe {k:Nat}(hr:zaJ k X.A):OpR X (compareOp .Eq) (upO X.K Z (wEq eq2)):=zqT (zpJ 0) (by have:=hr.un; omega)
theorem zl7 {k:Nat}(hr:zaJ k X.A):OpR X (compareOp .NotEq) (upO X.K Z (wNe eq2)):=zqI (zpJ 0) (by have:=hr.un; omega)
end
end L3

namespace L3
open PySem PySem.Spec PyProof.Rows L2
section
variable {X:Cx}{Z:Zx}{a b c:Expr}{ta tb tc:TDE}{pos:Pos}{zbj:List Expr}
def zml (t:TDE):TDT:=fun dl S Q=>t dl S fun d S'=>match d with
 | .bl k=>Q k S'
 | _=>False
theorem zok {K:PySem.W.Frag}{Z:Zx}{r:List Addr}{H:Hp}{Q:Bool→Sto→Prop}{Qb:Bool→Hp→Prop}(h:∀b H' r' S',Ext r r' H H'→Rel K Z r' S' H'→Q b S'→Qb b H'):
  Ret K Z r H (fun d S'=>match d with | .bl k=>Q k S' | _=>False) (fun x H'=>∃k,x=.bl k∧Qb k H'):=fun v H' r' d S' e rel p q=>by
 cases p with
 | bl k=>exact⟨k,rfl,h k H' r' S' e rel q⟩
 | _=>exact(show False from q).elim
theorem zaO {op:CmpOp}{w:W2}(ho:OpR X (compareOp op) (upO X.K Z w))(ha:PD X Z a ta)(hb:PD X Z b tb)(hm:behindInMarks op b=false):PDT X Z (.Compare a [op] [b] pos) (zml (dOp w ta tb)):=
 zko (zs9 ho ha hb hm) fun σ H Qb ⟨r,dl,S,Q,rs,rel,h,ret⟩=>zjX ⟨r,dl,S,_,rs,rel,h,zok ret⟩
theorem zcF {e:Expr}{t:TDE}(h:PD X Z e t)(he:∀whole,isTrue e X.env whole=(do let v ← whole; standAt e.pos; holding [v] (truthy v)):=by intro _; rfl):PDT X Z e (zml t):=
 zko (zw8 h he) fun σ H Qb ⟨r,dl,S,Q,rs,rel,h,ret⟩=>⟨r,dl,S,_,rs,rel,h,zok ret⟩
def dNot (t:TDT):TDT:=fun dl S Q=>t dl S fun k S'=>Q (!k) S'
theorem zcr {t:TDT}(ha:PDT X Z a t):PDT X Z (.UnaryOp .Not a pos) (dNot t):=
 zko (zxQ ha) fun σ H Qb ⟨r,dl,S,Q,rs,rel,h,ret⟩=>⟨r,dl,S,_,rs,rel,h,fun k H' r' S' e rel' q=>ret (!k) H' r' S' e rel' q⟩
def dAnd (t u:TDT):TDT:=fun dl S Q=>t dl S fun k S1=>if k=true then u dl S1 Q else Q false S1
def dOr (t u:TDT):TDT:=fun dl S Q=>t dl S fun k S1=>if k=true then Q true S1 else u dl S1 Q
theorem zmS {t:TDT}(ha:PDT X Z a t):PDW X Z (.BoolOp .And [a] pos) t:=zxD ha
theorem zef {t:TDT}(ha:PDT X Z a t):PDW X Z (.BoolOp .Or [a] pos) t:=ztU ha
theorem zmC {t u:TDT}(ha:PDT X Z a t)(hb:PDW X Z (.BoolOp .And (b::zbj) pos) u):PDW X Z (.BoolOp .And (a::b::zbj) pos) (dAnd t u):=
 zqt (zvo ha hb) fun σ H Qb ⟨r,dl,S,Q,rs,rel,h,ret⟩=>⟨r,dl,S,_,rs,rel,h,fun k H1 r1 S1 e1 rel1 q1=>by
  cases k with
  | true=>exact zb2 ⟨r1,dl,S1,Q,rs.ext e1,rel1,(by simpa using q1),fun k' H2 r2 S2 e2=>ret k' H2 r2 S2 (e1.trans e2)⟩
  | false=>exact zbc (ret false H1 r1 S1 e1 rel1 (by simpa using q1))⟩
theorem zdu {t u:TDT}(ha:PDT X Z a t)(hb:PDW X Z (.BoolOp .Or (b::zbj) pos) u):PDW X Z (.BoolOp .Or (a::b::zbj) pos) (dOr t u):=
 zqt (pw_or ha hb) fun σ H Qb ⟨r,dl,S,Q,rs,rel,h,ret⟩=>⟨r,dl,S,_,rs,rel,h,fun k H1 r1 S1 e1 rel1 q1=>by
  cases k with
  | true=>exact zb2 (ret true H1 r1 S1 e1 rel1 (by simpa using q1))
  | false=>exact zbc ⟨r1,dl,S1,Q,rs.ext e1,rel1,(by simpa using q1),fun k' H2 r2 S2 e2=>ret k' H2 r2 S2 (e1.trans e2)⟩⟩
def zqb (ta tb:TDE):TDE:=fun dl S Q=>ta dl S fun x S1=>match x with
 | .bl k=>if k=true then tb dl S1 Q else Q (.bl false) S1
 | _=>False
def dOrV (ta tb:TDE):TDE:=fun dl S Q=>ta dl S fun x S1=>match x with
 | .bl k=>if k=true then Q (.bl true) S1 else tb dl S1 Q
 | _=>False
def zp0 (ta:TDE):TDE:=fun dl S Q=>ta dl S fun x S1=>match x with
 | .bl k=>Q (.bl (!k)) S1
 | _=>False
theorem zhY {op}{t:TDE}(h:PD X Z a t):PD X Z (.BoolOp op [a] pos) t:=zrd h
theorem zeS (ha:PD X Z a ta)(hb:PD X Z (.BoolOp .And (b::zbj) pos) tb):PD X Z (.BoolOp .And (a::b::zbj) pos) (zqb ta tb):=
 za8 (zx4 ha hb) fun σ H Qv ⟨r,dl,S,Q,rs,rel,h,ret⟩=>⟨r,dl,S,_,rs,rel,h,fun v H1 r1 d S1 e1 rel1 p q1=>by
  cases p with
  | bl k=>
   refine⟨k,rfl,?_⟩
   cases k with
   | true=>exact zb2 ⟨r1,dl,S1,Q,rs.ext e1,rel1,(by simpa using q1),ret.ext e1⟩
   | false=>exact zbc (ret _ H1 r1 (.bl false) S1 e1 rel1 (.bl false) (by simpa using q1))
  | _=>exact(show False from q1).elim⟩
theorem zxp (ha:PD X Z a ta):PD X Z (.UnaryOp .Not a pos) (zp0 ta):=
 za8 (zxE ha) fun σ H Qv ⟨r,dl,S,Q,rs,rel,h,ret⟩=>⟨r,dl,S,_,rs,rel,h,fun v H1 r1 d S1 e1 rel1 p q1=>by
  cases p with
  | bl k=>exact⟨k,rfl,ret _ H1 r1 (.bl (!k)) S1 e1 rel1 (.bl (!k)) q1⟩
  | _=>exact(show False from q1).elim⟩
def dIfE (t:TDT)(ta tb:TDE):TDE:=fun dl S Q=>t dl S fun k S1=>if k=true then ta dl S1 Q else tb dl S1 Q
theorem zod {t:TDT}(hc:PDT X Z c t)(ha:PD X Z a ta)(hb:PD X Z b tb):PD X Z (.IfExp c a b pos) (dIfE t ta tb):=
 za8 (zyd hc ha hb) fun σ H Qv ⟨r,dl,S,Q,rs,rel,h,ret⟩=>⟨r,dl,S,_,rs,rel,h,fun k H1 r1 S1 e1 rel1 q1=>by
  cases k with
  | true=>exact zb2 ⟨r1,dl,S1,Q,rs.ext e1,rel1,(by simpa using q1),ret.ext e1⟩
  | false=>exact zbc ⟨r1,dl,S1,Q,rs.ext e1,rel1,(by simpa using q1),ret.ext e1⟩⟩
def zkr (w w':W2)(ta tb tc:TDE):TDE:=fun dl S Q=>ta dl S fun x S1=>tb dl S1 fun y S2=>w x y S2 fun z S3=>match z with
 | .bl k=>if k=true then tc dl S3 fun u S4=>w' y u S4 Q else Q (.bl false) S3
 | _=>False
theorem zqS {w w':W2}{σ:St}{H:Hp}{Qv:VK}(h:up X.K Z (zkr w w' ta tb tc) σ H Qv):zoD (upO X.K Z w) (upO X.K Z w') (up X.K Z ta) (up X.K Z tb) (up X.K Z tc) σ H Qv:=by
 obtain⟨r,dl,S,Q,rs,rel,h,ret⟩:=h
 refine⟨r,dl,S,_,rs,rel,h,fun v H1 r1 dx S1 e1 rel1 p1 h1=>⟨r1,dl,S1,_,rs.ext e1,rel1,h1,fun v2 H2 r2 dy S2 e2 rel2 p2 h2=>⟨r2,S2,dx,dy,_,rel2,p1.ext e2,p2,h2,fun v3 H3 r3 dz S3 e3 rel3 p3 h3=>?_⟩⟩⟩
 cases p3 with
 | bl k=>
  refine⟨k,rfl,?_⟩
  cases k with
  | true=>exact zb2 ⟨r3,dl,S3,_,rs.ext (e1.trans (e2.trans e3)),rel3,(by simpa using h3),fun v4 H4 r4 du S4 e4 rel4 p4 h4=>⟨r4,S4,dy,du,Q,rel4,(p2.ext e3).ext e4,p4,h4,ret.ext (e1.trans (e2.trans (e3.trans e4)))⟩⟩
  | false=>exact zbc (ret _ H3 r3 (.bl false) S3 (e1.trans (e2.trans e3)) rel3 (.bl false) (by simpa using h3))
 | _=>exact(show False from h3).elim
theorem zs8 {op op':CmpOp}{w w':W2}(ho:OpR X (compareOp op) (upO X.K Z w))(ho':OpR X (compareOp op') (upO X.K Z w'))(ha:PD X Z a ta)(hb:PD X Z b tb)(hc:PD X Z c tc)
  (hm:lastMarks [op,op'] [b,c]=false:=by with_unfolding_all rfl):PD X Z (.Compare a [op,op'] [b,c] pos) (zkr w w' ta tb tc):=za8 (zsT ho ho' ha hb hc hm) fun _ _ _ h=>zqS h
theorem zx5 {op op':CmpOp}{w w':W2}(ho:OpR X (compareOp op) (upO X.K Z w))(ho':OpR X (compareOp op') (upO X.K Z w'))(ha:PD X Z a ta)(hb:PD X Z b tb)(hc:PD X Z c tc)
  (hm:lastMarks [op,op'] [b,c]=false:=by with_unfolding_all rfl):PDT X Z (.Compare a [op,op'] [b,c] pos) (zml (zkr w w' ta tb tc)):=
 zko (zrK ho ho' ha hb hc hm) fun σ H Qb ⟨r,dl,S,Q,rs,rel,h,ret⟩=>zqS ⟨r,dl,S,_,rs,rel,h,zok ret⟩
def ziP:D→Bool
 | .non=>true
 | _=>false
def wIsN:W2:=fun x y S Q=>match y with
 | .non=>Q (.bl (ziP x)) S
 | _=>False
def zqq:W2:=fun x y S Q=>match y with
 | .non=>Q (.bl (!ziP x)) S
 | _=>False
theorem zqL {r:List Addr}{H:Hp}{d:D}{x:V}(p:Rp r H d x):decide (x=.non)=ziP d:=by
 cases p <;> simp[ziP]
theorem zov:OpR X (compareOp .Is) (upO X.K Z wIsN):=zek zsp fun x y H Qv ⟨r,S,dx,dy,Q,rel,px,py,q,ret⟩=>by
 cases py with
 | non=>exact⟨rfl,by rw[zqL px]; exact ret _ _ _ _ _ Ext.refl rel (.bl _) q⟩
 | _=>exact(show False from q).elim
theorem zxW:OpR X (compareOp .IsNot) (upO X.K Z zqq):=zek zt3 fun x y H Qv ⟨r,S,dx,dy,Q,rel,px,py,q,ret⟩=>by
 cases py with
 | non=>exact⟨rfl,by rw[zqL px]; exact ret _ _ _ _ _ Ext.refl rel (.bl _) q⟩
 | _=>exact(show False from q).elim

variable {e:Expr}{es:List Expr}
def dNil:TDA:=fun _ S Q=>Q [] S
def zq5 (ta:TDE)(tr:TDA):TDA:=fun dl S Q=>ta dl S fun x S1=>tr dl S1 fun xs S2=>Q (x::xs) S2
theorem zab:PDA X Z [] dNil:=zq6 ziH fun σ H Qv ⟨r,dl,S,Q,rs,rel,h,ret⟩=>ret [] H r [] S Ext.refl rel Rps.nil h
theorem zaa {te:TDE}{t:TDA}(ha:PD X Z e te)(hr:PDA X Z es t)(hs:starEach (e::es) X.env=(false,eval e X.env)::starEach es X.env:=by rfl):PDA X Z (e::es) (zq5 te t):=
 zq6 (zft ha hr hs) fun σ H Qv ⟨r,dl,S,Q,rs,rel,h,ret⟩=>⟨r,dl,S,_,rs,rel,h,fun v H1 r1 d S1 e1 rel1 p1 h1=>⟨r1,dl,S1,_,rs.ext e1,rel1,h1,fun vs H2 r2 ds S2 e2 rel2 p2 h2=>
  ret (v::vs) H2 r2 (d::ds) S2 (e1.trans e2) rel2 (Rps.cons (p1.ext e2) p2) h2⟩⟩
def dTup (t:TDA):TDE:=fun dl S Q=>t dl S fun ds S1=>if ds.length≤1000 then Q (.tup ds) S1 else False
def dLst (t:TDA):TDE:=fun dl S Q=>t dl S fun ds S1=>if ds.length≤1000 then Q (.ref S1.length) (S1++[.lst ds]) else False
theorem zkm {A:Prop}{p:Prop} [Decidable p] (h:if p then A else False):p∧A:=by
 split at h
 ·exact⟨by assumption,h⟩
 ·exact h.elim
theorem zfM {n:Nat}(h:n≤1000):n≤sizeLine:=Nat.le_of_lt (zhm h)
theorem za1 {x1}{t:TDA}(h:PDA X Z es t):PD X Z (.Tuple es x1 pos) (dTup t):=
 za8 (zv8 h) fun σ H Qv ⟨r,dl,S,Q,rs,rel,h,ret⟩=>⟨r,dl,S,_,rs,rel,h,fun vs H1 r1 ds S1 e1 rel1 p1 h1=>by
  obtain⟨hl,h1⟩:=zkm h1
  refine⟨by rw[← p1.1]; exact zfM hl,fun p hp=>?_⟩
  have x:Ext r1 r1 H1 (upd H1 p (.tup vs)):=⟨fun _ _ q=>q,fun a xs q=>zc4 hp _ _ q,fun a c q=>zc4 hp _ _ q⟩
  exact ret _ _ r1 (.tup ds) S1 (e1.trans x) (rel1.same (zc4 hp)) ((p1.ext x).tupR zcC) h1⟩
theorem zem {r:List Addr}{p:Addr}{H:Hp}{n:Nat}(h:r.length=n):Rp (r++[p]) H (.ref n) (.ref p):=.ref (by subst h; simp)
theorem zcf {t:TDA}(h:PDA X Z es t):PD X Z (.List es pos) (dLst t):=
 za8 (zuV h) fun σ H Qv ⟨r,dl,S,Q,rs,rel,h,ret⟩=>⟨r,dl,S,_,rs,rel,h,fun vs H1 r1 ds S1 e1 rel1 p1 h1=>by
  obtain⟨hl,h1⟩:=zkm h1
  refine⟨by rw[← p1.1]; exact zfM hl,fun p hp=>?_⟩
  obtain⟨rel2,x⟩:=rel1.push hp p1
  exact ret _ _ _ (.ref S1.length) _ (e1.trans x) rel2 (zem rel1.len) h1⟩

def wIx:W2:=fun x y S Q=>match x,y with
 | .tup xs,.int i=>match atI xs i with
  | some d=>Q d S
  | none=>False
 | .ref n,.int i=>match lAt S n with
  | some o=>match atI (zai o) i with
   | some d=>Q d S
   | none=>False
  | none=>False
 | _,_=>False
theorem zqF {r:List Addr}{H:Hp}{ds:List D}{vs:List V}{i:Int}{d:D}(h:Rps r H ds vs)(e:atI ds i=some d):∃v,atI vs i=some v∧Rp r H d v:=by
  unfold atI at e ⊢
  rw[← h.1]
  cases q:ixN ds.length i with
  | none=>
   rw[q] at e
   cases e
  | some j=>
    rw[q] at e
    exact h.get e
theorem do_ix:IxR X (upO X.K Z wIx):=by
 intro value slice pins s σ H x y v u Qv I rx ry h hs
 obtain⟨r,S,dx,dy,Q,rel,px,py,q,ret⟩:=h
 cases px with
 | @tup ds xs a e1 l1 f1=>
  cases py with
  | int i=>
   have q':(match atI ds i with | some d=>Q d S | none=>False):=q
   split at q'
   ·rename_i d e
    obtain⟨w,hw,pw⟩:=zqF ⟨l1,f1⟩ e
    exact ztJ value slice pins s σ H _ _ v u Qv I rx ry ⟨a,xs,i,w,rfl,rfl,SqT.of e1,hw,ret w H r d S Ext.refl rel pw q'⟩ hs
   ·exact q'.elim
  | _=>exact(show False from q).elim
 | @ref n a e1=>
  cases py with
  | int i=>
   have q':(match lAt S n with | some o=>(match atI (zai o) i with | some d=>Q d S | none=>False) | none=>False):=q
   split at q'
   ·rename_i o eo
    obtain⟨eo,eL⟩:=zbt eo
    obtain⟨a',ha,ob⟩:=rel.at eo
    rw[e1] at ha; cases ha
    obtain⟨xs,sq,pr⟩:=ob.list eL
    split at q'
    ·rename_i d e
     obtain⟨w,hw,pw⟩:=zqF pr e
     exact ztY value slice pins s σ H _ _ v u Qv I rx ry ⟨a,xs,i,w,rfl,rfl,sq,hw,ret w H r d S Ext.refl rel pw q'⟩ hs
    ·exact q'.elim
   ·exact q'.elim
  | _=>exact(show False from q).elim
 | _=>exact(show False from q).elim
theorem zas (ha:PD X Z a ta)(hb:PD X Z b tb)(hs:zof b):PD X Z (.Subscript a b pos) (dOp wIx ta tb):=za8 (pe_ix do_ix ha hb hs) fun _ _ _ h=>zjX h
end
end L3


namespace L3
open PySem PySem.Spec PyProof.Rows L2
structure Bk (fs:List Addr)(H H':Hp)(B h:Heap)(ea:Addr):Prop where
 trk:∀b u,H' b=some u→∃o,B.get? b=some o
 old:∀b o,h.get? b=some o→H b=none→b ∉ fs→B.get? b=some o
 all:∀b o,h.get? b=some o→b ∉ fs→∃o',B.get? b=some o'
 new:H' ea=none
def CXE (P:Program)(w:World):CXT:=fun outer H s E e s'=>∃(ea c:Addr) (a0:Value) (B:Heap) (H':Hp),e=.ref ea∧s'.os=s.os∧AllBare s'.gens∧Un (frs outer) [] H H' s.heap s'.heap∧HOk P w H' s'.heap∧
 Heap.FlyingW B outer ea (.ref c) a0 s'.heap∧Bk (frs outer) H H' B s.heap ea∧E (.ref c) none H'
section
variable {X:Cx}{pins:List (Addr×Obj)}{σ:St}{H:Hp}{s:Shared}
end
section
variable {P:Program}{w:World}{K:PySem.W.Frag}{mg:Str→Option Value}{base:Heap}{N:List Str}{qual:Str}{scope:Scope}{f:Addr}{cdv:Value}{A:Around}{outer:List Env}{s0:Shared}{H0:Hp}{E:XK}
end
structure Xc (K:PySem.W.Frag)(mg:Str→Option Value)(x:Str)(C:Addr)(bm:List Value)(nid:String):Prop where
 bound:mg x=some (.ref C)
 ex:PySem.W.excIn K C bm nid=true
end L3

namespace L3
open PySem PySem.Spec PyProof.Rows L2
abbrev WC:=List D→Sto→DK→Prop
abbrev Sd:=List D→Sto→DK→(Addr→Sto→Prop)→Prop
def upC (K:PySem.W.Frag)(Z:Zx)(w:WC):List V→Hp→VK→Prop:=fun xs H Qv=>∃r S ds Q,Rel K Z r S H∧Rps r H ds xs∧w ds S Q∧Ret K Z r H Q Qv
def upF (K:PySem.W.Frag)(sd:Sd):Sp:=fun vs H Qv E=>∃ex:Addr→Sto→Prop,upC K (Zc ex E) (fun ds S Q=>sd ds S Q ex) vs H Qv
def zjq (w:WC)(t:TDA):TDE:=fun dl S Q=>t dl S fun ds S1=>w ds S1 Q
def zly (ex:Ev→Addr→Sto→Prop)(sd:Sd)(t:TDA):TDE:=fun dl S Q=>t dl S fun ds S1=>sd ds S1 Q (ex dl)
def zc7 (X:Cx)(W:St→XK):Prop:=∀(pins:List (Addr×Obj)) (σ:St) (H:Hp) (s:Shared) (e:Value) (s':Shared),Inv X pins σ H s→CXE X.prog X.w X.stack H s (W σ) e s'→X.xe e s'
section
variable {X:Cx}{k:Nat}{f:Addr}{fd:FuncData}{ps:List Str}{sp:Sp}{W:St→XK}{x:Str}{p pos:Pos}{e:Expr}{es:List Expr}{t:TA}
theorem zng {pins:List (Addr×Obj)}{σ:St}{H:Hp}{s:Shared}{Q:VK}{us:List Value}{vs:List V}(F:zbb X.prog X.w X.K X.mg X.base (CXE X.prog X.w) k f fd ps sp)(hr:zaJ k X.A)(hb:zbM X.K fd ps [])(hx:zc7 X W)
  (I:Inv X pins σ H s)(r:zat vs us)(h:sp vs H Q (W σ)):wpAny (model X.prog X.w) X.A (call (.ref f) us) (EP X pins σ Q) X.xe s:=by
 have hl:us.length=ps.length:=by rw[← r.length]; exact F.len _ _ _ _ h
 have hb':=hb s us I.kIn (by rw[List.append_nil]; exact hl)
 rw[List.append_nil] at hb'
 refine wpAny_call (codeAny_mono (F.run X.A X.stack s H ⟨us,[]⟩ us vs Q (W σ) hr I.env0 hb' r h) fun z s' hq=>?_)
 cases z with
 | error ev=>exact hx pins σ H s ev s' I hq
 | ok fl=>
  cases fl with
  | ret u=>exact I.after hq
  | _=>exact False.elim hq
theorem zxf (F:zbb X.prog X.w X.K X.mg X.base (CXE X.prog X.w) k f fd ps sp)(hr:zaJ k X.A)(hg:Gl X x)(hm:X.mg x=some (.ref f))(hk:PySem.W.keepIn X.K (.ref f)=true)(hb:zbM X.K fd ps [])(hx:zc7 X W)
  (ha:PA X (e::es) t)(hdb:(x == ("__debug__":Str))=false)(he:starEach (e::es) X.env=(false,eval e X.env)::starEach es X.env)(hpl:(backTo pos (starEach es X.env)).any (·.1)=false):
  PE X (.Call (.Name x p) (e::es) [] pos) (fun σ H Q=>t σ H fun vs H1=>sp vs H1 Q (W σ)):=by
 intro pins s σ H Q I h
 refine wpAny_Call_Name_kw (zpT I hg hm ?_ hdb)
 exact PySem.W.callWith_K (h₀:=X.base) I.ok.mod.kin hk (thn (ha pos pins s σ H _ I h) fun us s1 ⟨vs,H1,I1,r,q⟩=>⟨I1.kIn,zng F hr hb hx I1 r q⟩) he hpl
end
section
variable {X:Cx}{Z:Zx}{x:Str}{p pos:Pos}{e:Expr}{es:List Expr}{t:TDA}{id T:String}{w:WC}
theorem zpQ {σ:St}{H:Hp}{Qv:VK}(h:up X.K Z (zjq w t) σ H Qv):upA X.K Z t σ H fun vs H1=>upC X.K Z w vs H1 Qv:=by
 obtain⟨r,dl,S,Q,rs,rel,h,ret⟩:=h
 exact⟨r,dl,S,_,rs,rel,h,fun vs H1 r1 ds S1 e1 rel1 p1 h1=>⟨r1,S1,ds,Q,rel1,p1,h1,ret.ext e1⟩⟩
theorem zaP (hc:zbd X (.builtin id) (upC X.K Z w))(hg:Gl X x)(hm:X.mg x=none)(hv:bootBuiltins x=some (.builtin id))(ha:PDA X Z (e::es) t)(hn:x≠"__name__":=by decide)(hdb:(x == ("__debug__":Str))=false:=by decide)
  (he:starEach (e::es) X.env=(false,eval e X.env)::starEach es X.env:=by rfl)(hpl:(backTo pos (starEach es X.env)).any (·.1)=false:=by rfl):PD X Z (.Call (.Name x p) (e::es) [] pos) (zjq w t):=
 za8 (zmR hc hg hm hv ha hn hdb he hpl) fun _ _ _ h=>zpQ h
theorem zcy (hc:zbd X (.type T) (upC X.K Z w))(hg:Gl X x)(hm:X.mg x=none)(hv:bootBuiltins x=some (.type T))(ha:PDA X Z (e::es) t)(hn:x≠"__name__":=by decide)(hdb:(x == ("__debug__":Str))=false:=by decide)
  (he:starEach (e::es) X.env=(false,eval e X.env)::starEach es X.env:=by rfl)(hpl:(backTo pos (starEach es X.env)).any (·.1)=false:=by rfl):PD X Z (.Call (.Name x p) (e::es) [] pos) (zjq w t):=
 za8 (zss hc hg hm hv ha hn hdb he hpl) fun _ _ _ h=>zpQ h
theorem zoi {sd:Sd}{r:List Addr}{S:Sto}{H:Hp}{dl:Ev}{σ:St}{ds:List D}{vs:List V}{Q:DK}{Qv:VK}(rs:Rs r H dl σ)(rel:Rel X.K Z r S H)(p:Rps r H ds vs)(h:sd ds S Q (Z.ex dl))(ret:Ret X.K Z r H Q Qv):upF X.K sd vs H Qv (Z.w σ):=
 ⟨Z.ex dl,r,S,ds,Q,⟨rel.b,fun _ _ c H' r' S' x _ rb q=>rel.xw dl σ c H' r' S' x (rs.ext x) rb q⟩,p,h,fun v H' r' d S' x rel' pv q=>ret v H' r' d S' x ⟨rel'.b,rel.xw.ext x⟩ pv q⟩
theorem zwH {k:Nat}{f:Addr}{fd:FuncData}{ps:List Str}{sd:Sd}(F:zbb X.prog X.w X.K X.mg X.base (CXE X.prog X.w) k f fd ps (upF X.K sd))(hr:zaJ k X.A)(hg:Gl X x)(hm:X.mg x=some (.ref f))(hk:PySem.W.keepIn X.K (.ref f)=true)
  {ex:Ev→Addr→Sto→Prop}{W:St→XK}(hb:zbM X.K fd ps [])(hx:zc7 X W)(ha:PDA X ⟨ex,W⟩ (e::es) t)(hdb:(x == ("__debug__":Str))=false:=by decide)(he:starEach (e::es) X.env=(false,eval e X.env)::starEach es X.env:=by rfl)
  (hpl:(backTo pos (starEach es X.env)).any (·.1)=false:=by rfl):PD X ⟨ex,W⟩ (.Call (.Name x p) (e::es) [] pos) (zly ex sd t):=
 za8 (zxf F hr hg hm hk hb hx ha hdb he hpl) fun σ H Qv ⟨r,dl,S,Q,rs,rel,h,ret⟩=>⟨r,dl,S,_,rs,rel,h,fun vs H1 r1 ds S1 e1 rel1 p1 h1=>zoi (Z:=⟨ex,W⟩) (rs.ext e1) rel1 p1 h1 (ret.ext e1)⟩

def wAbs:WC:=fun ds S Q=>match ds with
 | [.int i]=>Q (.int (if i < 0 then -i else i)) S
 | _=>False
theorem zv1:zbd X (.builtin "abs") (upC X.K Z wAbs):=znB zun fun xs H Qv ⟨r,S,ds,Q,rel,ps,q,ret⟩=>by
 unfold wAbs at q
 split at q
 ·rename_i i
  obtain⟨v,vs,rfl,p1,p2⟩:=ps.uncons
  have z:=p2.unnil
  subst z
  cases p1
  exact⟨i,rfl,ret _ _ _ _ _ Ext.refl rel (.int _) q⟩
 ·exact q.elim
def zci:List D→Option (List Int)
 | []=>some []
 | .int i::r=>(zci r).map (i::·)
 | _::_=>none
def zei (le:Int→Int→Prop)(two:Int→Int→Int):WC:=fun ds S Q=>match ds with
 | [.int i,.int j]=>Q (.int (two i j)) S
 | [.ref n]=>match lAt S n with
  | some o=>match zci (zai o) with
   | some xs=>xs≠[]∧∀m,m∈xs→(∀y∈xs,le y m)→Q (.int m) S
   | none=>False
  | none=>False
 | _=>False
abbrev wMax:WC:=zei (fun y m=>y≤m) fun i j=>if j > i then j else i
abbrev wMin:WC:=zei (fun y m=>m≤y) fun i j=>if j < i then j else i
theorem zjC {r:List Addr}{H:Hp}:∀ {ds:List D} {ns:List Int} {vs:List V} {us:List Value},zci ds=some ns→Rps r H ds vs→zat vs us→∃xs:List (Int×Tok),us.toArray=intItems xs.toArray∧xs.map (·.1)=ns
 | [],ns,vs,us,e,p,q=>by
  have z:=p.unnil
  subst z
  cases q
  simp[zci] at e
  subst e
  exact⟨[],by simp[intItems],rfl⟩
 | d::ds,ns,vs,us,e,p,q=>by
  obtain⟨v,vs',rfl,p1,p2⟩:=p.uncons
  cases d with
  | int i=>
   cases p1
   cases q with
   | cons q1 q2=>
    obtain⟨t,rfl⟩:=q1
    simp only[zci,Option.map_eq_some_iff] at e
    obtain⟨ms,e1,rfl⟩:=e
    obtain⟨xs,h1,h2⟩:=zjC e1 p2 q2
    refine⟨(i,t)::xs,?_,by simp[h2]⟩
    simp[intItems] at h1 ⊢
    exact h1
  | _=>simp[zci] at e
theorem zpO (f:Nat→Int):∀k j,j≤k→f j≤f (argBest (fun i j=>decide (f i > f j)) k)
 | 0,j,h=>by
  have z:j=0:=by omega
  subst z
  exact Int.le_refl _
 | k + 1,j,h=>by
  have ih:=zpO f k
  unfold argBest
  split
  ·rename_i hb
   have hb':f (k + 1) > f (argBest (fun i j=>decide (f i > f j)) k):=of_decide_eq_true hb
   by_cases z:j=k + 1
   ·subst z; exact Int.le_refl _
   ·have:=ih j (by omega); omega
  ·rename_i hb
   have hb':¬ f (k + 1) > f (argBest (fun i j=>decide (f i > f j)) k):=fun q=>hb (decide_eq_true q)
   by_cases z:j=k + 1
   ·subst z; omega
   ·exact ih j (by omega)
theorem zpl (f:Nat→Int):∀k j,j≤k→f (argBest (fun i j=>decide (f i < f j)) k)≤f j
 | 0,j,h=>by
  have z:j=0:=by omega
  subst z
  exact Int.le_refl _
 | k + 1,j,h=>by
  have ih:=zpl f k
  unfold argBest
  split
  ·rename_i hb
   have hb':f (k + 1) < f (argBest (fun i j=>decide (f i < f j)) k):=of_decide_eq_true hb
   by_cases z:j=k + 1
   ·subst z; exact Int.le_refl _
   ·have:=ih j (by omega); omega
  ·rename_i hb
   have hb':¬ f (k + 1) < f (argBest (fun i j=>decide (f i < f j)) k):=fun q=>hb (decide_eq_true q)
   by_cases z:j=k + 1
   ·subst z; omega
   ·exact ih j (by omega)
theorem zmY (bt:Nat→Nat→Bool):∀k,argBest bt k≤k
 | 0=>Nat.le_refl _
 | k + 1=>by
  unfold argBest
  split
  ·exact Nat.le_refl _
  ·exact Nat.le_succ_of_le (zmY bt k)
theorem zoj {xs:List (Int×Tok)}{ns:List Int}(h:xs.map (·.1)=ns){j:Nat}{y:Int}(e:ns[j]?=some y):numAt xs.toArray j=y:=by
  subst h
  unfold numAt
  rw[List.getElem?_map] at e
  simp only[List.getElem?_toArray]
  cases q:xs[j]? with
  | none=>
   rw[q] at e
   cases e
  | some z=>rw[q] at e; simpa using e
theorem zpX {xs:List (Int×Tok)}{ns:List Int}(h:xs.map (·.1)=ns){j:Nat}(hj:j < ns.length):numAt xs.toArray j∈ns:=by
 have e:ns[j]?=some ns[j]:=by simp[hj]
 rw[zoj h e]
 exact List.getElem_mem hj
theorem zjM (hc:X.calm=true):zbd X (.builtin "max") (upC X.K Z wMax):=by
 intro pins s σ H xs us Qv I rv h
 obtain⟨r,S,ds,Q,rel,ps,q,ret⟩:=h
 unfold wMax zei at q
 split at q
 ·rename_i i j
  obtain⟨v,vs,rfl,p1,p2⟩:=ps.uncons
  obtain⟨v2,vs2,rfl,p3,p4⟩:=p2.uncons
  have z:=p4.unnil
  subst z
  cases p1
  cases p3
  exact zug hc pins s σ H _ us Qv I rv ⟨i,j,rfl,ret _ _ _ _ _ Ext.refl rel (.int _) q⟩
 ·rename_i n
  obtain⟨v,vs,rfl,p1,p2⟩:=ps.uncons
  have z:=p2.unnil
  subst z
  split at q
  ·rename_i o eo
   split at q
   ·rename_i ns en
    obtain⟨hne,q⟩:=q
    obtain⟨eo,eL⟩:=zbt eo
    obtain⟨a,ha,ob⟩:=rel.at eo
    cases p1 with
    | ref h1=>
     rw[h1] at ha; cases ha
     obtain⟨ys,sq,pr⟩:=ob.list eL
     obtain⟨u,rfl,ru⟩:=zdl rv
     cases ru
     obtain⟨its,ri,pl,hz⟩:=I.list sq
     obtain⟨zs,hz1,hz2⟩:=zjC en pr ri
     have hl:zs.length=ns.length:=by rw[← hz2,List.length_map]
     have hpos:0 < ns.length:=List.length_pos_iff.mpr hne
     have isl:=pl.isList
     rw[hz1] at isl
     refine max_intList (I.ok.hd hc) isl (by simp; omega) fun v h' tk hv hk=>?_
     have hvi:=intItems_at hv
     obtain⟨t,rfl⟩:=hvi
     have hb:=zmY (fun i j=>decide (numAt zs.toArray i > numAt zs.toArray j)) (zs.toArray.size - 1)
     have hsz:zs.toArray.size=ns.length:=by simp[hl]
     refine⟨.int _,H,I.kept hk,⟨_,rfl⟩,ret _ _ _ _ _ Ext.refl rel (.int _) (q _ (zpX hz2 (by omega)) fun y hy=>?_)⟩
     obtain⟨j,hj,ej⟩:=List.mem_iff_getElem.mp hy
     have e1:=zoj hz2 (show ns[j]?=some y by simp[hj,ej])
     rw[← e1]
     exact zpO _ _ j (by omega)
   ·exact q.elim
  ·exact q.elim
 ·exact q.elim
theorem zox (hc:X.calm=true):zbd X (.builtin "min") (upC X.K Z wMin):=by
 intro pins s σ H xs us Qv I rv h
 obtain⟨r,S,ds,Q,rel,ps,q,ret⟩:=h
 unfold wMin zei at q
 split at q
 ·rename_i i j
  obtain⟨v,vs,rfl,p1,p2⟩:=ps.uncons
  obtain⟨v2,vs2,rfl,p3,p4⟩:=p2.uncons
  have z:=p4.unnil
  subst z
  cases p1
  cases p3
  exact zx3 hc pins s σ H _ us Qv I rv ⟨i,j,rfl,ret _ _ _ _ _ Ext.refl rel (.int _) q⟩
 ·rename_i n
  obtain⟨v,vs,rfl,p1,p2⟩:=ps.uncons
  have z:=p2.unnil
  subst z
  split at q
  ·rename_i o eo
   split at q
   ·rename_i ns en
    obtain⟨hne,q⟩:=q
    obtain⟨eo,eL⟩:=zbt eo
    obtain⟨a,ha,ob⟩:=rel.at eo
    cases p1 with
    | ref h1=>
     rw[h1] at ha; cases ha
     obtain⟨ys,sq,pr⟩:=ob.list eL
     obtain⟨u,rfl,ru⟩:=zdl rv
     cases ru
     obtain⟨its,ri,pl,hz⟩:=I.list sq
     obtain⟨zs,hz1,hz2⟩:=zjC en pr ri
     have hl:zs.length=ns.length:=by rw[← hz2,List.length_map]
     have hpos:0 < ns.length:=List.length_pos_iff.mpr hne
     have isl:=pl.isList
     rw[hz1] at isl
     refine min_intList (I.ok.hd hc) isl (by simp; omega) fun v h' tk hv hk=>?_
     have hvi:=intItems_at hv
     obtain⟨t,rfl⟩:=hvi
     have hb:=zmY (fun i j=>decide (numAt zs.toArray i < numAt zs.toArray j)) (zs.toArray.size - 1)
     have hsz:zs.toArray.size=ns.length:=by simp[hl]
     refine⟨.int _,H,I.kept hk,⟨_,rfl⟩,ret _ _ _ _ _ Ext.refl rel (.int _) (q _ (zpX hz2 (by omega)) fun y hy=>?_)⟩
     obtain⟨j,hj,ej⟩:=List.mem_iff_getElem.mp hy
     have e1:=zoj hz2 (show ns[j]?=some y by simp[hj,ej])
     rw[← e1]
     exact zpl _ _ j (by omega)
   ·exact q.elim
  ·exact q.elim
 ·exact q.elim
def zgZ:WC:=fun ds S Q=>match ds with
 | [.tup xs]=>Q (.int xs.length) S
 | [.ref n]=>match lAt S n with
  | some o=>Q (.int (zai o).length) S
  | none=>False
 | _=>False
theorem zbi:zbd X (.builtin "len") (upC X.K Z zgZ):=znB zrB fun xs H Qv ⟨r,S,ds,Q,rel,ps,q,ret⟩=>by
 unfold zgZ at q
 split at q
 ·rename_i ys
  obtain⟨v,vs,rfl,p1,p2⟩:=ps.uncons
  have z:=p2.unnil
  subst z
  obtain⟨a,zs,rfl,h1,h2⟩:=p1.untup
  exact⟨a,zs,rfl,.inr (SqT.of h1),by rw[← h2.1]; exact ret _ _ _ _ _ Ext.refl rel (.int _) q⟩
 ·rename_i n
  obtain⟨v,vs,rfl,p1,p2⟩:=ps.uncons
  have z:=p2.unnil
  subst z
  split at q
  ·rename_i o eo
   obtain⟨eo,eL⟩:=zbt eo
   obtain⟨a,ha,ob⟩:=rel.at eo
   cases p1 with
   | ref h1=>
    rw[h1] at ha; cases ha
    obtain⟨ys,sq,pr⟩:=ob.list eL
    exact⟨_,ys,rfl,.inl sq,by rw[← pr.1]; exact ret _ _ _ _ _ Ext.refl rel (.int _) q⟩
  ·exact q.elim
 ·exact q.elim

def zc9 (t T:String):Bool:=t == T || (t == "bool" && T == "int")
def zpb (T:String)(te:TDE):TDE:=fun dl S Q=>te dl S fun d S1=>match d with
 | .ref _=>False
 | .exc _=>False
 | .non=>Q (.bl (zc9 "NoneType" T)) S1
 | .bl _=>Q (.bl (zc9 "bool" T)) S1
 | .int _=>Q (.bl (zc9 "int" T)) S1
 | .str _=>Q (.bl (zc9 "str" T)) S1
 | .tup _=>Q (.bl (zc9 "tuple" T)) S1
def Kit (K:PySem.W.Frag)(T:String):Prop:=∀t∈["NoneType","bool","int","str","tuple"],PySem.W.kitOne K (.type t) (.type T)=some (zc9 t T)
def rInst (K:PySem.W.Frag):List V→Hp→VK→Prop:=fun xs H Qv=>∃x T t b,xs=[x,.ty T]∧zcg K H x t∧PySem.W.kitOne K t (.type T)=some b∧Qv (.bl b) H
theorem zo3:zbd X (.builtin "isinstance") (rInst X.K):=by
 intro pins s σ H xs us Q I r h
 obtain⟨x,T,t,b,rfl,ty,e,q⟩:=h
 obtain⟨u,w',rfl,r1,r2⟩:=znd r
 cases r2
 exact zuE I r1 ty e fun tk=>⟨.bl b,H,I.tok tk,rfl,q⟩
theorem znp {T:String}{te:TDE}{y:Str}{p2:Pos}(KT:Kit X.K T)(hg:Gl X "isinstance")(hm:X.mg "isinstance"=none)(hg2:Gl X y)(hm2:X.mg y=none)(hv2:bootBuiltins y=some (.type T))(ha:PD X Z e te)
  (hv:bootBuiltins "isinstance"=some (.builtin "isinstance"):=by exact PyProof.Rows.Boot.«isinstance»)
  (hn2:y≠"__name__":=by decide)(hd2:(y == ("__debug__":Str))=false:=by decide)(he2:starEach [e,.Name y p2] X.env=(false,eval e X.env)::starEach [.Name y p2] X.env:=by rfl)
  (he3:starEach [.Name y p2] X.env=(false,eval (.Name y p2) X.env)::starEach [] X.env:=by rfl)(hpl:(backTo pos (starEach [.Name y p2] X.env)).any (·.1)=false:=by rfl):
  PD X Z (.Call (.Name "isinstance" p) [e,.Name y p2] [] pos) (zpb T te):=
 za8 (zmR zo3 hg hm hv (zft ha (zft (zqm (v:=.ty T) hg2 hm2 hv2 rfl hn2 hd2) ziH he3) he2) (by decide) (by decide) he2 hpl) fun σ H Qv ⟨r,dl,S,Q,rs,rel,h,ret⟩=>
  ⟨r,dl,S,_,rs,rel,h,fun v H1 r1 d S1 e1 rel1 p1 h1=>by
   cases p1 with
   | non=>exact⟨_,T,_,_,rfl,.non,KT _ (by simp),ret _ _ _ _ _ e1 rel1 (.bl _) h1⟩
   | bl b=>exact⟨_,T,_,_,rfl,.bl b,KT _ (by simp),ret _ _ _ _ _ e1 rel1 (.bl _) h1⟩
   | int b=>exact⟨_,T,_,_,rfl,.int b,KT _ (by simp),ret _ _ _ _ _ e1 rel1 (.bl _) h1⟩
   | str b=>exact⟨_,T,_,_,rfl,.str b,KT _ (by simp),ret _ _ _ _ _ e1 rel1 (.bl _) h1⟩
   | tup e2 _ _=>exact⟨_,T,_,_,rfl,.tup e2,KT _ (by simp),ret _ _ _ _ _ e1 rel1 (.bl _) h1⟩
   | ref _=>exact(show False from h1).elim
   | exc _=>exact(show False from h1).elim⟩
end
end L3

namespace L3
open PySem PySem.Spec PyProof.Rows L2
section
variable {X:Cx}{Z:Zx}{st:Stmt}{zbj:List Stmt}{t u:TDS}{e:Expr}{te:TDE}{pos:Pos}
def zh3:TDS:=fun E dl S=>E.nx dl S
def zcT (t u:TDS):TDS:=fun E dl S=>t { nx:=fun dl' S'=>u E dl' S',rt:=E.rt,bk:=E.bk,ct:=E.ct } dl S
theorem zaT:zcJ X Z [] zh3:=zoR zsv fun F σ H ⟨r,dl,S,E,rs,rel,h,ret⟩=>ret.nx σ H r dl S Ext.refl rs rel h
theorem zaj (h1:PDS X Z st t)(h2:zcJ X Z zbj u):zcJ X Z (st::zbj) (zcT t u):=
 zoR (zuy h1 h2) fun F σ H ⟨r,dl,S,E,rs,rel,h,ret⟩=>⟨r,dl,S,_,rs,rel,h,fun σ' H' r' dl' S' x rs' rel' q=>⟨r',dl',S',E,rs',rel',q,ret.ext x⟩,ret.bk,ret.ct,ret.rt⟩
theorem zah (h1:PDS X Z st t):zcJ X Z [st] t:=zwU h1
def zqn (te:TDE):TDS:=fun E dl S=>te dl S fun _ S1=>E.nx dl S1
theorem zcU (he:PD X Z e te)(hs:swapsWith e none pos.line X.env=pure false:=by rfl):PDS X Z (.Expr e pos) (zqn te):=
 zb7 (zrf he hs) fun F σ H ⟨r,dl,S,E,rs,rel,h,ret⟩=>⟨r,dl,S,_,rs,rel,h,fun v H1 r1 d S1 x rel1 p q=>ret.nx σ H1 r1 dl S1 x (rs.ext x) rel1 q⟩
def dRet (te:TDE):TDS:=fun E dl S=>te dl S E.rt
theorem zap (he:PD X Z e te):PDS X Z (.Return (some e) pos) (dRet te):=
 zb7 (zwp he) fun F σ H ⟨r,dl,S,E,rs,rel,h,ret⟩=>⟨r,dl,S,_,rs,rel,h,ret.rt⟩
def dRetN:TDS:=fun E _ S=>E.rt .non S
def dIf (c:TDT)(t u:TDS):TDS:=fun E dl S=>c dl S fun k S1=>if k=true then t E dl S1 else u E dl S1
theorem zaS {c:Expr}{a b:List Stmt}{tc:TDT}(hc:PDT X Z c tc)(ha:zcJ X Z a t)(hb:zcJ X Z b u):PDS X Z (.If c a b pos) (dIf tc t u):=
 zb7 (ps_if hc ha hb) fun F σ H ⟨r,dl,S,E,rs,rel,h,ret⟩=>⟨r,dl,S,_,rs,rel,h,fun k H1 r1 S1 x rel1 q=>by
  cases k with
  | true=>exact zb2 ⟨r1,dl,S1,E,rs.ext x,rel1,(by simpa using q),ret.ext x⟩
  | false=>exact zbc ⟨r1,dl,S1,E,rs.ext x,rel1,(by simpa using q),ret.ext x⟩⟩
def zhx (i:Nat)(te:TDE):TDS:=fun E dl S=>te dl S fun d S1=>E.nx (dl.set i (some d)) S1
theorem zay {i:Nat}{x:Str}{pos':Pos}(hN:X.N.Nodup)(hi:X.N[i]?=some x)(hx:Loc X.env.scope x)(he:PD X Z e te)(hs:swapsWith e (some (.Name x pos')) pos.line X.env=pure false:=by rfl)
  (hf:X.fn x=true∨X.env.scope.names.lookup x=some .local:=by first | exact .inl rfl | exact .inr rfl | assumption):PDS X Z (.Assign [.Name x pos'] e pos) (zhx i te):=
 zb7 (zte hN hi hx he hs hf) fun F σ H ⟨r,dl,S,E,rs,rel,h,ret⟩=>⟨r,dl,S,_,rs,rel,h,fun v H1 r1 d S1 x rel1 p q=>ret.nx _ H1 r1 _ S1 x ((rs.ext x).set i p) rel1 q⟩

def zuJ (c:TDT)(tb:TDS):TDS:=fun E dl S=>∃W:Nat→Ev→Sto→Prop,(∃m,W m dl S)∧∀m dl S,W m dl S→
 c dl S fun k S1=>if k=true then tb { nx:=fun dl' S'=>∃m',m' < m∧W m' dl' S',rt:=E.rt,bk:=E.nx,ct:=fun dl' S'=>∃m',m' < m∧W m' dl' S' } dl S1 else E.nx dl S1
theorem zs2 {c:Expr}{body:List Stmt}{tc:TDT}{tb:TDS}(hp:PassesOwn (model X.prog X.w) X.A X.env X.xe)(hc:PDT X Z c tc)(hb:zcJ X Z body tb):PDS X Z (.While c body [] pos) (zuJ tc tb):=
 zb7 (zwn hp hc hb) fun F σ H ⟨r,dl,S,E,rs,rel,⟨W,⟨m0,w0⟩,turn⟩,ret⟩=>by
  refine⟨fun m σ' H'=>∃r' dl' S',Ext r r' H H'∧Rs r' H' dl' σ'∧Rel X.K Z r' S' H'∧W m dl' S',⟨m0,r,dl,S,Ext.refl,rs,rel,w0⟩,?_⟩
  rintro m σ1 H1 ⟨r1,dl1,S1,x1,rs1,rel1,w1⟩
  refine⟨r1,dl1,S1,_,rs1,rel1,turn m dl1 S1 w1,fun k H2 r2 S2 x2 rel2 q2=>?_⟩
  cases k with
  | true=>
   refine zb2 ⟨fun σ' H'=>∃m',m' < m∧∃r' dl' S',Ext r r' H H'∧Rs r' H' dl' σ'∧Rel X.K Z r' S' H'∧W m' dl' S',fun _ _ z=>z,r2,dl1,S2,_,rs1.ext x2,rel2,(by simpa using q2),?_⟩
   have go:∀σ' H' r' dl' S',Ext r2 r' H2 H'→Rs r' H' dl' σ'→Rel X.K Z r' S' H'→(∃m',m' < m∧W m' dl' S')→∃m',m' < m∧∃r' dl' S',Ext r r' H H'∧Rs r' H' dl' σ'∧Rel X.K Z r' S' H'∧W m' dl' S':=
    fun σ' H' r' dl' S' x rs' rel' ⟨m',hm,w'⟩=>⟨m',hm,r',dl',S',x1.trans (x2.trans x),rs',rel',w'⟩
   exact⟨go,fun σ' H' r' dl' S' x rs' rel' q=>ret.nx σ' H' r' dl' S' (x1.trans (x2.trans x)) rs' rel' q,go,ret.rt.ext (x1.trans x2)⟩
  | false=>exact zbc (ret.nx σ1 H2 r2 dl1 S2 (x1.trans x2) (rs1.ext x2) rel2 (by simpa using q2))

def dFor (i:Nat)(tl:TDE)(tb:TDS):TDS:=fun E dl S=>tl dl S fun d S1=>match d with
 | .ref n=>(lAt S1 n).isSome=true∧∃W:Nat→Nat→Ev→Sto→Prop,(∃m,W 0 m dl S1)∧∀k m dl S,W k m dl S→match lAt S n with
  | some o=>match (zai o)[k]? with
   | some x=>tb { nx:=fun dl' S'=>∃m',m' < m∧W (k + 1) m' dl' S',rt:=E.rt,bk:=E.nx,ct:=fun dl' S'=>∃m',m' < m∧W (k + 1) m' dl' S' } (dl.set i (some x)) S
   | none=>E.nx dl S
  | none=>False
 | _=>False
theorem zmj {i:Nat}{x:Str}{pos':Pos}{iter:Expr}{body:List Stmt}{tl:TDE}{tb:TDS}(hp:PassesOwn (model X.prog X.w) X.A X.env X.xe)(hc:X.calm=true)(hN:X.N.Nodup)(hi:X.N[i]?=some x)(hx:Loc X.env.scope x)
  (hl:PD X Z iter tl)(hb:zcJ X Z body tb)(hf:X.fn x=true∨X.env.scope.names.lookup x=some .local:=by first | exact .inl rfl | exact .inr rfl | assumption)
  (hs:∀y,foldedSetIterable iter X.env y=pure y:=by intro _; rfl):PDS X Z (.For (.Name x pos') iter body [] pos) (dFor i tl tb):=
 zb7 (zm6 hp hc (znv hl) (zl0 hN hi hx hf) hb hs) fun F σ H ⟨r,dl,S,E,rs,rel,h,ret⟩=>by
  refine⟨r,dl,S,_,rs,rel,h,fun v H1 r1 d S1 x1 rel1 p1 q1=>?_⟩
  cases p1 with
  | @ref n a hn=>
   obtain⟨hsome,W,⟨m0,w0⟩,turn⟩:=q1
   have sql:∀ {r':List Addr} {S':Sto} {H':Hp} {o:Ob},Ext r1 r' H1 H'→Rel X.K Z r' S' H'→lAt S' n=some o→∃xs,SqL X.K H' a xs∧Rps r' H' (zai o) xs:=fun {r' S' H' o} x' rel' eo=>by
    obtain⟨eo,eL⟩:=zbt eo
    obtain⟨a',ha,ob⟩:=rel'.at eo
    rw[x'.adr n a hn] at ha; cases ha
    exact ob.list eL
   obtain⟨o1,eo1⟩:=Option.isSome_iff_exists.mp hsome
   obtain⟨xs1,sq1,_⟩:=sql Ext.refl rel1 eo1
   refine⟨a,rfl,⟨xs1,sq1⟩,fun k m σ' H'=>∃r' dl' S',Ext r1 r' H1 H'∧Rs r' H' dl' σ'∧Rel X.K Z r' S' H'∧W k m dl' S',⟨m0,r1,dl,S1,Ext.refl,rs.ext x1,rel1,w0⟩,?_⟩
   rintro k m σ2 H2 ⟨r2,dl2,S2,x2,rs2,rel2,w2⟩
   have q:=turn k m dl2 S2 w2
   split at q
   ·rename_i o eo
    obtain⟨xs,sq,pr⟩:=sql x2 rel2 eo
    split at q
    ·rename_i y ey
     obtain⟨v,hv,pv⟩:=pr.get ey
     have go:∀ {r3:List Addr} {H3:Hp},Ext r2 r3 H2 H3→∀σ' H' r' dl' S',Ext r3 r' H3 H'→Rs r' H' dl' σ'→Rel X.K Z r' S' H'→(∃m',m' < m∧W (k + 1) m' dl' S')→∃m',m' < m∧∃r' dl' S',Ext r1 r' H1 H'∧Rs r' H' dl' σ'∧Rel X.K Z r' S' H'∧W (k + 1) m' dl' S':=
      fun {r3 H3} x3 σ' H' r' dl' S' x rs' rel' ⟨m',hm,w'⟩=>⟨m',hm,r',dl',S',x2.trans (x3.trans x),rs',rel',w'⟩
     refine .inr ⟨⟨xs,v,sq,hv⟩,fun σ' H'=>∃m',m' < m∧∃r' dl' S',Ext r1 r' H1 H'∧Rs r' H' dl' σ'∧Rel X.K Z r' S' H'∧W (k + 1) m' dl' S',fun _ _ z=>z,fun v' H' y'=>?_⟩
     obtain⟨eH,y'⟩:=y'
     subst eH
     have ev:v'=v:=by
      have z:=y' xs sq
      rw[hv] at z; exact(Option.some.inj z).symm
     subst ev
     exact⟨r2,_,S2,_,rs2.set i pv,rel2,q,go Ext.refl,fun σ' H' r' dl' S' x rs' rel' z=>ret.nx σ' H' r' dl' S' (x1.trans (x2.trans x)) rs' rel' z,go Ext.refl,ret.rt.ext (x1.trans x2)⟩
    ·rename_i ey
     have hlen:(zai o).length≤k:=List.getElem?_eq_none_iff.mp ey
     exact .inl ⟨⟨xs,sq,by rw[← pr.1]; exact hlen⟩,ret.nx σ2 H2 r2 dl2 S2 (x1.trans x2) rs2 rel2 q⟩
   ·exact q.elim
  | _=>exact(show False from q1).elim
def dForR (i:Nat)(ta:TDA)(tb:TDS):TDS:=fun E dl S=>ta dl S fun ds S1=>match ds with
 | [.int j]=>(-(2 ^ 62)≤j∧j < 2 ^ 62)∧∃W:Nat→Ev→Sto→Prop,W 0 dl S1∧∀k dl S,W k dl S→
   if k < j.toNat then tb { nx:=fun dl' S'=>W (k + 1) dl' S',rt:=E.rt,bk:=E.nx,ct:=fun dl' S'=>W (k + 1) dl' S' } (dl.set i (some (.int k))) S else E.nx dl S
 | _=>False
theorem zc1 {i:Nat}{x:Str}{pos2 pos' p:Pos}{a:Expr}{body:List Stmt}{ta:TDA}{tb:TDS}(hp:PassesOwn (model X.prog X.w) X.A X.env X.xe)(hc:X.calm=true)(hN:X.N.Nodup)(hi:X.N[i]?=some x)(hx:Loc X.env.scope x)
  (hg:Gl X "range")(hm:X.mg "range"=none)(ha:PDA X Z [a] ta)(hb:zcJ X Z body tb)(hf:X.fn x=true∨X.env.scope.names.lookup x=some .local:=by first | exact .inl rfl | exact .inr rfl | assumption)
  (hs:∀y,foldedSetIterable (.Call (.Name "range" p) [a] [] pos) X.env y=pure y:=by intro _; rfl)(hst:starEach [a] X.env=[(false,eval a X.env)]:=by rfl):
  PDS X Z (.For (.Name x pos') (.Call (.Name "range" p) [a] [] pos) body [] pos2) (dForR i ta tb):=
 zb7 (zm6 hp hc (znH hg hm ha hst) (zl0 hN hi hx hf) hb hs) fun F σ H ⟨r,dl,S,E,rs,rel,h,ret⟩=>by
  refine⟨r,dl,S,_,rs,rel,h,fun vs H1 r1 ds S1 x1 rel1 p1 q1=>?_⟩
  split at q1
  ·rename_i j
   obtain⟨v,vs',rfl,p2,p3⟩:=p1.uncons
   have z:=p3.unnil
   subst z
   cases p2
   obtain⟨⟨b1,b2⟩,W,w0,turn⟩:=q1
   refine⟨j,rfl,b1,b2,fun k m σ' H'=>m=j.toNat - k∧∃r' dl' S',Ext r1 r' H1 H'∧Rs r' H' dl' σ'∧Rel X.K Z r' S' H'∧W k dl' S',⟨j.toNat,by simp,r1,dl,S1,Ext.refl,rs.ext x1,rel1,w0⟩,?_⟩
   rintro k m σ2 H2 ⟨em,r2,dl2,S2,x2,rs2,rel2,w2⟩
   have q:=turn k dl2 S2 w2
   split at q
   ·rename_i hk
    have go:∀σ' H' r' dl' S',Ext r2 r' H2 H'→Rs r' H' dl' σ'→Rel X.K Z r' S' H'→W (k + 1) dl' S'→∃r' dl' S',Ext r1 r' H1 H'∧Rs r' H' dl' σ'∧Rel X.K Z r' S' H'∧W (k + 1) dl' S':=
     fun σ' H' r' dl' S' x rs' rel' w'=>⟨r',dl',S',x2.trans x,rs',rel',w'⟩
    have pk:Rp r2 H2 (.int (k:Int)) (.int (0 + (k:Int))):=by rw[Int.zero_add]; exact .int _
    refine .inr ⟨hk,fun σ' H'=>∃r' dl' S',Ext r1 r' H1 H'∧Rs r' H' dl' σ'∧Rel X.K Z r' S' H'∧W (k + 1) dl' S',fun σ' H' z=>⟨j.toNat - (k + 1),by omega,rfl,z⟩,fun v' H' y'=>?_⟩
    obtain⟨eH,y'⟩:=y'
    subst eH
    subst y'
    exact⟨r2,_,S2,_,rs2.set i pk,rel2,q,go,fun σ' H' r' dl' S' x rs' rel' z=>ret.nx σ' H' r' dl' S' (x1.trans (x2.trans x)) rs' rel' z,go,ret.rt.ext (x1.trans x2)⟩
   ·rename_i hk
    exact .inl ⟨by show j.toNat≤k; omega,ret.nx σ2 H2 r2 dl2 S2 (x1.trans x2) rs2 rel2 q⟩
  ·exact q1.elim
end

def zfd (N:List Str)(ds:List D):Ev:=ds.map some++List.replicate (N.length - ds.length) none
theorem zt6 {r:List Addr}{H:Hp}{N:List Str}{ds:List D}{vs:List V}(h:Rps r H ds vs):Rs r H (zfd N ds) (L2.zcH N vs):=by
  refine⟨by simp[zfd,L2.zcH,h.1],fun i d e=>?_⟩
  unfold zfd at e
  by_cases hi:i < ds.length
  · rw[List.getElem?_append_left (by simpa using hi),List.getElem?_map] at e
    cases q:ds[i]? with
    | none=>
   rw[q] at e
   cases e
    | some z=>
      rw[q] at e
      cases e
      obtain⟨v,hv,pv⟩:=h.get q
      refine⟨v,?_,pv⟩
      unfold L2.zcH
      rw[List.getElem?_append_left (by simpa [h.1] using hi),List.getElem?_map,hv]
      rfl
  · rw[List.getElem?_append_right (by simpa using hi),List.getElem?_replicate] at e
    split at e <;> cases e
section
variable {P:Program}{w:World}{K:PySem.W.Frag}{mg:Str→Option Value}{base:Heap}
abbrev Z0:Zx:=Zc (fun _ _=>False) (fun _ _ _=>False)
theorem zfQ {X:Cx}:zc7 X Z0.w:=fun _ _ _ _ _ _ _ h=>by
 obtain⟨_,_,_,_,_,_,_,_,_,_,_,_,q⟩:=h
 exact q.elim
theorem zau {x qual:Str}{st:Stmt}{f:Addr}{fd:FuncData}{N ps:List Str}{k:Nat}{sd:Sd}(F:Fun K x qual st f fd)(Sc:zaw N ps (zao st))(len:∀ds S Q ex,sd ds S Q ex→ds.length=ps.length)
  (hbody:∀(cdv:Value) (A:Around) (outer:List Env) (s:Shared) (H:Hp) (E:XK),zaJ k (A.deeper (envOfC qual (zao st) s.heap.objs.size f cdv))→
   ∃t,zcJ (zd8 (CXE P w) P w K mg base N qual (zao st) f cdv A outer s H E).nox Z0 (zdb st) t∧∀ds S Q ex,sd ds S Q ex→t { nx:=fun _ S'=>Q .non S',rt:=Q } (zfd N ds) S):zbb P w K mg base (CXE P w) (k + 1) f fd ps (upF K sd):=by
 obtain⟨oc,od,kV,doc,pm,an,cdv,ct,osl,rfl,lk,hcd⟩:=F.ex
 refine zpg lk hcd Sc (fun vs H Q E h=>?_) fun A outer s H vs Q E hr h=>?_
 ·obtain⟨ex,r,S,ds,Q',rel,p,q,ret⟩:=h
  rw[← p.1]
  exact len ds S Q' ex q
 ·obtain⟨ex,r,S,ds,Q',rel,p,q,ret⟩:=h
  obtain⟨t,ht,hq⟩:=hbody cdv A outer s H E hr
  have back:∀ {H':Hp} {r':List Addr} {S':Sto},Ext r r' H H'→Rel K Z0 r' S' H'→Rel K (Zc ex E) r' S' H':=fun x rel'=>⟨rel'.b,rel.xw.ext x⟩
  refine⟨upS K Z0 t,ht.nox,r,zfd N ds,S,_,zt6 p,⟨rel.b,fun _ _ _ _ _ _ _ _ _ z=>z.elim⟩,hq ds S Q' ex q,?_,?_,?_,?_⟩
  ·intro σ' H' r' dl' S' x _ rel' z
   exact ret .non H' r' .non S' x (back x rel') .non z
  ·intro σ' H' r' dl' S' x _ rel' z
   exact z
  ·intro σ' H' r' dl' S' x _ rel' z
   exact z
  ·intro v H' r' d S' x rel' p' z
   exact ret v H' r' d S' x (back x rel') p' z
end
end L3

namespace L3
open PySem
def Sz (n:Nat)(i:Int):Prop:=i.natAbs < 2 ^ n
theorem Sz.mono {m n:Nat}{i:Int}(h:Sz m i)(hn:m≤n):Sz n i:=Nat.lt_of_lt_of_le h (Nat.pow_le_pow_right (by decide) hn)
theorem Sz.bits {n:Nat}{i:Int}(h:Sz n i):Builtin.Int.intBits i≤n:=by
 unfold Builtin.Int.intBits
 split
 ·exact Nat.zero_le _
 ·rename_i hz
  have hp:i.natAbs≠0:=by
   intro z
   have z2:i=0:=by omega
   simp[z2] at hz
  have:=(Nat.log2_lt hp).mpr h
  omega
theorem zaR {m n:Nat}{i j:Int}(hi:Sz m i)(hj:Sz n j)(hm:m≤1048576:=by decide)(hn:n≤1048576:=by decide):IntMulOk i j:=
  IntMulOk.of_bits (Nat.le_trans hi.bits (by have e:(2:Nat) ^ 20=1048576:=by decide
                                             omega)) (Nat.le_trans hj.bits (by have e:(2:Nat) ^ 20=1048576:=by decide
                                                                               omega))
theorem Sz.of {n:Nat}{i:Int}(m:Nat)(h:i.natAbs≤m)(hm:m < 2 ^ n:=by decide):Sz n i:=Nat.lt_of_le_of_lt h hm
theorem Sz.mul {m n:Nat}{i j:Int}(hi:Sz m i)(hj:Sz n j):Sz (m + n) (i * j):=by
 unfold Sz at *
 rw[Nat.pow_add,Int.natAbs_mul]
 exact Nat.mul_lt_mul'' hi hj
theorem Sz.add {m n:Nat}{i j:Int}(hi:Sz m i)(hj:Sz n j):Sz (max m n + 1) (i + j):=by
 have h1:Sz (max m n) i:=hi.mono (Nat.le_max_left _ _)
 have h2:Sz (max m n) j:=hj.mono (Nat.le_max_right _ _)
 unfold Sz at *
 have e:(2:Nat) ^ (max m n + 1)=2 ^ max m n + 2 ^ max m n:=by rw[Nat.pow_succ]; omega
 rw[e]
 have:=Int.natAbs_add_le i j
 omega
theorem Sz.neg {m:Nat}{i:Int}(hi:Sz m i):Sz m (-i):=by
 unfold Sz at *
 rw[Int.natAbs_neg]; exact hi
theorem Sz.sub {m n:Nat}{i j:Int}(hi:Sz m i)(hj:Sz n j):Sz (max m n + 1) (i - j):=by
 rw[Int.sub_eq_add_neg]; exact hi.add hj.neg
theorem Sz.log {n:Nat}{i:Int}(h:Sz n i)(hi:i≠0)(hn:n≤9000:=by decide):i.natAbs.log2 < 9000:=by
 have:=(Nat.log2_lt (by omega:i.natAbs≠0)).mpr h
 omega
theorem Sz.fd {n:Nat}{i:Int}(h:Sz n i)(hi:0 < i)(hn:n≤9000:=by decide):0 < i∧i.natAbs.log2 < 9000:=⟨hi,h.log (by omega) hn⟩
theorem zej {a b:Int}(hb:0 < b):0≤a % b∧a % b < b:=⟨Int.emod_nonneg _ (by omega),Int.emod_lt_of_pos _ hb⟩
theorem p40:((10:Int) ^ (40:Int).toNat)=10 ^ 40:=rfl
theorem p41:((10:Int) ^ (41:Int).toNat)=10 ^ 41:=rfl
theorem p20:((10:Int) ^ (20:Int).toNat)=10 ^ 20:=rfl
example (x:Int):-(10 ^ 40)≤x % (2 * 10 ^ 40 + 1) - 10 ^ 40:=by omega
example (x:Int):x % (2 * 10 ^ 40 + 1) - 10 ^ 40≤10 ^ 40:=by omega
example (x:Int) (h:-(10 ^ 40)≤x) (h2:x≤2 * 10 ^ 41):Sz 140 x:=Sz.of (2 * 10 ^ 41) (by omega)
end L3

namespace L3
theorem zrs (a b:Int):Int.gcd b (a % b)=Int.gcd a b:=by
 rw[Int.emod_def,show a - b * (a / b)=a - (a / b) * b by rw[Int.mul_comm],Int.gcd_sub_mul_right_right,Int.gcd_comm]
def zc5 (i:Int):Int:=if i < 0 then -i else i
theorem zv6 (i:Int):0≤zc5 i:=by unfold zc5; split <;> omega
theorem zsb (a b:Int):Int.gcd (zc5 a) (zc5 b)=Int.gcd a b:=by
 have h:∀i:Int,(zc5 i).natAbs=i.natAbs:=fun i=>by unfold zc5; split <;> omega
 unfold Int.gcd
 rw[h,h]
theorem zw1 {T B d:Int}(hB:B≠0)(hd:d=(if B < 0 then -((Int.gcd T B:Nat):Int) else ((Int.gcd T B:Nat):Int))):
  d≠0∧T.fdiv d * d=T∧B.fdiv d * d=B∧1≤B.fdiv d∧Int.gcd (T.fdiv d) (B.fdiv d)=1∧T.fdiv d * B=T * B.fdiv d:=by
 have g0:0 < Int.gcd T B:=Nat.pos_of_ne_zero fun z=>hB (Int.gcd_eq_zero_iff.mp z).2
 have dT:((Int.gcd T B:Nat):Int) ∣ T:=Int.gcd_dvd_left T B
 have dB:((Int.gcd T B:Nat):Int) ∣ B:=Int.gcd_dvd_right T B
 have hne:d≠0:=by
  rw[hd]; split <;> omega
 have eT:d ∣ T:=by rw[hd]; split <;> first | exact Int.neg_dvd.mpr dT | exact dT
 have eB:d ∣ B:=by rw[hd]; split <;> first | exact Int.neg_dvd.mpr dB | exact dB
 have fT:T.fdiv d=T / d:=Int.fdiv_eq_ediv_of_dvd eT
 have fB:B.fdiv d=B / d:=Int.fdiv_eq_ediv_of_dvd eB
 have mT:T.fdiv d * d=T:=by rw[fT]; exact Int.ediv_mul_cancel eT
 have mB:B.fdiv d * d=B:=by rw[fB]; exact Int.ediv_mul_cancel eB
 have gg:Int.gcd (T.fdiv d) (B.fdiv d)=1:=by
  have z:=Int.gcd_ediv_gcd_ediv_gcd g0
  rw[fT,fB,hd]
  split
  ·rw[Int.ediv_neg,Int.ediv_neg,Int.neg_gcd,Int.gcd_neg]; exact z
  ·exact z
 have pos:1≤B.fdiv d:=by
  by_cases hb:B < 0
  ·have dn:d < 0:=by rw[hd,if_pos hb]; omega
   by_cases q:B.fdiv d≤0
   ·have:=Int.mul_nonneg_of_nonpos_of_nonpos q (Int.le_of_lt dn)
    omega
   ·omega
  ·have dp:0 < d:=by rw[hd,if_neg hb]; omega
   by_cases q:B.fdiv d≤0
   ·have:=Int.mul_nonneg (show 0≤-(B.fdiv d) by omega) (Int.le_of_lt dp)
    rw[Int.neg_mul] at this
    omega
   ·omega
 refine⟨hne,mT,mB,pos,gg,?_⟩
 calc T.fdiv d * B=T.fdiv d * (B.fdiv d * d):=by rw[mB]
  _=T.fdiv d * d * B.fdiv d:=by grind
  _=T * B.fdiv d:=by rw[mT]
theorem zqg {T d:Int}(hne:d≠0)(mT:T.fdiv d * d=T):(T.fdiv d).natAbs≤T.natAbs:=by
 have h:(T.fdiv d).natAbs * d.natAbs=T.natAbs:=by rw[← Int.natAbs_mul,mT]
 have hd:1≤d.natAbs:=by omega
 calc (T.fdiv d).natAbs=(T.fdiv d).natAbs * 1:=by omega
  _≤(T.fdiv d).natAbs * d.natAbs:=Nat.mul_le_mul_left _ hd
  _=T.natAbs:=h
theorem zfD (m:Int){g:Int}(hg:0 < g):m / g * g≤m∧m < (m / g + 1) * g:=by
 have h1:=Int.emod_add_mul_ediv m g
 have h2:=Int.emod_nonneg m (show g≠0 by omega)
 have h3:=Int.emod_lt_of_pos m hg
 have e:(m / g + 1) * g=g * (m / g) + g:=by grind
 have e2:m / g * g=g * (m / g):=Int.mul_comm _ _
 omega
theorem zkw (m:Int){g:Int}(hg:0 < g):m≤-(-m / g) * g∧(-(-m / g) - 1) * g < m:=by
 obtain⟨h1,h2⟩:=zfD (-m) hg
 have e1:-(-m / g) * g=-(-m / g * g):=by rw[Int.neg_mul]
 have e2:(-(-m / g) - 1) * g=-((-m / g + 1) * g):=by grind
 omega
end L3

namespace L3
open PySem PySem.Spec PyProof.Rows L2
section
variable {X:Cx}{Z:Zx}
def wIf (C:Int→Int→Bool)(g:Int→Int→D):W2:=fun x y S Q=>match x,y with
 | .int i,.int j=>if C i j=true then Q (g i j) S else False
 | _,_=>False
theorem opIf {f:Value→Value→Sem Value}{C:Int→Int→Prop}{C':Int→Int→Bool}{g:Int→Int→D}(h:OpR X f (upO X.K Z (wI C g)))(hc:∀i j,C' i j=true→C i j):OpR X f (upO X.K Z (wIf C' g)):=
 zek h fun x y H Qv ⟨r,S,dx,dy,Q,rel,px,py,q,ret⟩=>⟨r,S,dx,dy,Q,rel,px,py,by
  unfold wIf at q
  split at q
  ·obtain⟨h1,h2⟩:=zkm q
   exact⟨hc _ _ h1,h2⟩
  ·exact q.elim,ret⟩
def zhR (_ j:Int):Bool:=decide (0 < j) && decide (j < 1073741824)
abbrev zwy:W2:=wIf zhR fun i j=>.int (i / j)
abbrev wModL:W2:=wIf zhR fun i j=>.int (i % j)
def powB (i j:Int):Bool:=decide (0≤j) && decide (j≤1000) && decide (-1000 < i) && decide (i < 1000)
theorem zpV {i j:Int}(h:zhR i j=true):0 < j∧j < 1073741824:=by
 unfold zhR at h
 simpa using h
theorem zb1:OpR X (binaryOp .FloorDiv) (upO X.K Z zwy):=opIf zd1 fun i j h=>by
 obtain⟨h1,h2⟩:=zpV h
 refine⟨h1,?_⟩
 have:j.natAbs.log2 < 30:=(Nat.log2_lt (by omega)).mpr (by omega)
 omega
theorem zbq:OpR X (binaryOp .Mod) (upO X.K Z wModL):=opIf zee fun i j h=>(zpV h).1
structure Df (K:PySem.W.Frag)(mg:Str→Option Value)(x:Str)(st:Stmt)(ps:List Str) where
 f:Addr
 fd:FuncData
 F:Fun K x x st f fd
 m:mg x=some (.ref f)
 b:zbM K fd ps []
structure Fk (P:Program)(w:World)(K:PySem.W.Frag)(mg:Str→Option Value)(base:Heap)(k:Nat)(x:Str)(ps:List Str)(sd:Sd) where
 f:Addr
 fd:FuncData
 ok:zbb P w K mg base (CXE P w) k f fd ps (upF K sd)
 m:mg x=some (.ref f)
 kp:PySem.W.keepIn K (.ref f)=true
 b:zbM K fd ps []
def Df.mk' {P:Program}{w:World}{K:PySem.W.Frag}{mg:Str→Option Value}{base:Heap}{k:Nat}{x:Str}{st:Stmt}{ps:List Str}{sd:Sd}(d:Df K mg x st ps)(h:zbb P w K mg base (CXE P w) k d.f d.fd ps (upF K sd)):Fk P w K mg base k x ps sd:=
 ⟨d.f,d.fd,h,d.m,d.F.kp,d.b⟩
theorem zvN {x:Str}{p pos:Pos}{e:Expr}{es:List Expr}{t:TDA}{k:Nat}{ps:List Str}{sd:Sd}{ex:Ev→Addr→Sto→Prop}{W:St→XK}(G:Fk X.prog X.w X.K X.mg X.base k x ps sd)(hr:zaJ k X.A)(hx:zc7 X W)(hg:Gl X x)(ha:PDA X ⟨ex,W⟩ (e::es) t)
  (hdb:(x == ("__debug__":Str))=false:=by decide)(he:starEach (e::es) X.env=(false,eval e X.env)::starEach es X.env:=by rfl)(hpl:(backTo pos (starEach es X.env)).any (·.1)=false:=by rfl):
  PD X ⟨ex,W⟩ (.Call (.Name x p) (e::es) [] pos) (zly ex sd t):=zwH G.ok hr hg G.m G.kp G.b hx ha hdb he hpl
theorem zrp {st:Stmt}:PDS X Z st (fun _ _ _=>False):=zb7 zud fun F σ H ⟨_,_,_,_,_,_,h,_⟩=>h
end
def ze1:Sd:=fun ds S Q _=>∃ns:List Int,ds=[.ref 0]∧S=[.frz (ns.map D.int)]∧ns.length≤63∧∀S',Q (.bl true) S'
theorem zsM:∀ds S Q ex,ze1 ds S Q ex→ds.length=1:=fun ds S Q ex h=>by
 obtain⟨ns,rfl,_⟩:=h
 rfl
theorem zvD {K:PySem.W.Frag}{H:Hp}{a:Addr}{xs:List V}(hO:zio H)(h:SqL K H a xs):SqF K H a xs:=by
 rcases h with (h | ⟨o,h⟩) | h
 ·rcases hO a with z | ⟨o,ys,z⟩
  ·rw[h] at z; cases z
  ·rw[h] at z; cases z
 ·exact .inl ⟨o,h⟩
 ·exact .inr h
theorem zrv {r:List Addr}{H:Hp}(ns:List Int):Rps r H (ns.map D.int) (ns.map V.int):=by
 refine⟨by simp,fun i d v h1 h2=>?_⟩
 rw[List.getElem?_map] at h1 h2
 cases q:ns[i]? with
 | none=>rw[q] at h1; cases h1
 | some z=>
  rw[q] at h1 h2
  cases h1
  cases h2
  exact .int z
theorem zuk {K:PySem.W.Frag}{H:Hp}{a:Addr}{ns:List Int}(hl:ns.length≤63)(hO:zio H)(hS:SqL K H a (ns.map V.int)):upF K ze1 [.ref a] H (fun v _=>v=.bl true) fun _ _ _=>False:=by
 refine⟨fun _ _=>False,[a],[.frz (ns.map D.int)],[.ref 0],fun d _=>d=.bl true,⟨⟨rfl,fun n b o h1 h2=>?_,fun n m b xs ys h1 h2 h3 h4 o1 o2=>?_⟩,fun _ _ _ _ _ _ _ _ _ z=>z.elim⟩,Rps.cons (.ref rfl) Rps.nil,⟨ns,rfl,rfl,hl,fun _=>rfl⟩,fun v H' r' d S' e rel p q=>?_⟩
 ·cases n with
  | zero=>
   simp at h1 h2
   subst h1; subst h2
   exact⟨_,zvD hO hS,zrv ns⟩
  | succ n=>simp at h1
 ·cases n with
  | zero=>
   simp at h3
   subst h3
   cases o1
  | succ n=>simp at h1
 ·subst q
  cases p
  rfl
theorem zxe {l:PySem.W.OpenLaw}{q:Program}{loose:List Str}{XP:(Str→Option Value)→Heap→Prop}{YP:World→Heap→Prop}{d:DefRec}{K:Params→PySem.W.Frag}{x:Str}(k:Nat)(hn:l.most=some 63)(hdf:d.params.defaults=[])(hr:zaJ k callerA)
  (hY:∀(w:World) (h:Heap),YP w h→(K w.params).In h)
  (F:∀(w:World) (mg:Str→Option Value) (fa:Addr) (h:Heap),(K w.params).In h→h.Ns mainGlobals mg→mg d.name=some (.ref fa)→
   ∃fd:FuncData,(∀(s:Shared) (u:Value),BindsTo s fd ⟨[u],[]⟩ [(x,u)])∧∀base:Heap,(K w.params).In base→base.Ns mainGlobals mg→zbb l.prog w (K w.params) mg base (CXE l.prog w) k fa fd [x] (upF (K w.params) ze1)):
  PySem.W.WalkO q loose XP YP l.row.toRowW d [] (fun f vs=>PySem.call f vs):=
 L2.zsJ (n:=63) (k:=k) (x:=x) (CX:=fun w=>CXE l.prog w) (sp:=fun w=>upF (K w.params) ze1) hn (by decide) hdf hr hY F (fun _ _ a ns hl hO hS=>zuk hl hO hS) fun _ _ _ _ _ ⟨_,_,_,_,_,_,_,_,_,_,_,_,z⟩=>z
end L3
namespace L3
open PySem PySem.Spec PyProof.Rows L2
theorem zos (K:PySem.W.Frag)(T:String)(h:T∈["int","bool","tuple","str"]):Kit K T:=by
 intro t ht
 simp only[List.mem_cons,List.not_mem_nil,or_false] at h ht
 rcases h with rfl | rfl | rfl | rfl <;> rcases ht with rfl | rfl | rfl | rfl | rfl <;> kernel_rfl
end L3

namespace L3
open PySem PySem.Spec PyProof.Rows L2
theorem ifF {c:Bool}{A B:Prop}(h:c=false)(b:B):if c=true then A else B:=by rw[h]; exact zbc b
theorem ifP {c A B:Prop} [Decidable c] (h:c)(a:A):if c then A else B:=by rw[if_pos h]; exact a
theorem ifD {c:Prop} [Decidable c] {A B:Prop}(h1:c→A)(h2:¬ c→B):if decide c=true then A else B:=by
 by_cases h:c
 ·rw[decide_eq_true h]; exact zb2 (h1 h)
 ·rw[decide_eq_false h]; exact zbc (h2 h)
end L3
namespace L3
open PySem L2
end L3
namespace L3
open PySem L2
theorem Sz.pow {n:Nat}{i:Int}(h:Sz n i)(k:Nat):Sz (n * k + 1) (i ^ k):=by
 unfold Sz at *
 rw[Int.natAbs_pow,Nat.pow_succ,Nat.pow_mul]
 have h1:i.natAbs ^ k≤(2 ^ n) ^ k:=Nat.pow_le_pow_left (Nat.le_of_lt h) k
 have h2:0 < (2 ^ n) ^ k:=Nat.pow_pos (Nat.pow_pos (by decide))
 omega
end L3
namespace L3
theorem ifN {c:Prop} [Decidable c] {A B:Prop}(h1:¬ c→A)(h2:c→B):if (!decide c)=true then A else B:=by
 by_cases h:c
 ·rw[decide_eq_true h]; exact L2.zbc (h2 h)
 ·rw[decide_eq_false h]; exact L2.zb2 (h1 h)
end L3

namespace L3
open PySem PySem.Spec PyProof.Rows L2
section
variable {X:Cx}{Z:Zx}
abbrev Cx.held (X:Cx)(pins:List (Addr×Obj))(E:Value→Shared→Prop):Cx:={ X with pn:=X.pn++pins,xe:=E }
end
end L3
namespace L3
open PySem PySem.Spec PyProof.Rows L2
structure zet (k:Nat)(A:Around):Prop where
 dp:A.depth + 3 * k + 5 < recursionLimit
 un:A.units + 16 * k + 200 < cLine
theorem zet.mono {j k:Nat}{A:Around}(r:zet k A)(h:j≤k):zet j A:=⟨by have:=r.dp; omega,by have:=r.un; omega⟩
theorem zet.deeper {k:Nat}{A:Around}(r:zet (k + 1) A)(env:Env):zet k (A.deeper env):=
 ⟨by have:=r.dp; show A.depth + 1 + 3 * k + 5 < _; omega,by have:=r.un; show A.units + 3 + 16 * k + 200 < _; omega⟩
structure FnOkN (P:Program)(w:World)(K:PySem.W.Frag)(mg:Str→Option Value)(base:Heap)(k:Nat)(f:Addr)(fd:FuncData)(ps:List Str)(sp:Sp):Prop where
 len:∀vs H Q E,sp vs H Q E→vs.length=ps.length
 run:∀(A:Around) (outer:List Env) (s:Shared) (H:Hp) (args:Args) (us:List Value) (vs:List V) (Q:VK) (E:XK),zet k A→zcI P w K mg base A outer s H→BindsTo s fd args (ps.zip us)→zat vs us→sp vs H Q E→
  codeAny (model P w) A (.call (.ref f) args) (CR (CXE P w) outer P w H s Q E) s
section
variable {X:Cx}{k:Nat}{f:Addr}{fd:FuncData}{ps:List Str}{sp:Sp}{W:St→XK}{x:Str}{p pos:Pos}{e:Expr}{es:List Expr}{t:TA}
end
section
variable {X:Cx}{Z:Zx}{x:Str}{p pos:Pos}{e:Expr}{es:List Expr}{t:TDA}
end
section
variable {P:Program}{w:World}{K:PySem.W.Frag}{mg:Str→Option Value}{base:Heap}
end
structure FkN (P:Program)(w:World)(K:PySem.W.Frag)(mg:Str→Option Value)(base:Heap)(k:Nat)(x:Str)(ps:List Str)(sd:Sd) where
 f:Addr
 fd:FuncData
 ok:FnOkN P w K mg base k f fd ps (upF K sd)
 m:mg x=some (.ref f)
 kp:PySem.W.keepIn K (.ref f)=true
 b:zbM K fd ps []
end L3

namespace L3
open PySem PySem.Spec PyProof.Rows L2
section
variable {X:Cx}{Z:Zx}
theorem zoe {r:List Addr}{H:Hp}{a:Addr}{o:HO}(h:H a=none):Ext r r H (upd H a o):=⟨fun _ _ q=>q,fun _ _ q=>zc4 h _ _ q,fun _ _ q=>zc4 h _ _ q⟩
open PySem.W in
end
end L3

namespace L3
open PySem PySem.Spec PyProof.Rows L2
abbrev VE:List Value:=[.type "ValueError",.type "Exception",.type "BaseException",.type "object"]
structure Ec (K:PySem.W.Frag)(mg:Str→Option Value)(x:Str) where
 c:Addr
 xc:Xc K mg x c VE "ValueError.__new__"
end L3

namespace L3
open PySem PySem.Spec PyProof.Rows L2
theorem qt {Q:DK}{S:Sto}{b:Bool}(e:b=true)(h:Q (.bl true) S):Q (.bl b) S:=by rw[e]; exact h
theorem Sz.div {n:Nat}{i j:Int}(h:Sz n i)(hj:1≤j):Sz n (i / j):=by
 refine Nat.lt_of_le_of_lt ?_ h
 obtain⟨h1,h2⟩:=zfD i (show 0 < j by omega)
 by_cases q:0≤i / j
 ·have:=Int.mul_le_mul_of_nonneg_left hj q
  omega
 ·have:=Int.mul_le_mul_of_nonneg_left hj (show 0≤-(i / j + 1) by omega)
  have e:-(i / j + 1) * j=-((i / j + 1) * j):=Int.neg_mul _ _
  omega
end L3

namespace L3
open PySem PySem.Spec PyProof.Rows L2
inductive Sco (n:Nat):D→Prop
 | non:Sco n .non
 | bl (b:Bool):Sco n (.bl b)
 | int (i:Int):Sco n (.int i)
 | str (x:Str):Sco n (.str x)
 | tup {ds:List D}:(∀d∈ds,Sco n d)→Sco n (.tup ds)
 | ref {m:Nat}:m < n→Sco n (.ref m)
 | exc (c:Addr):Sco n (.exc c)
theorem Rp.sco {r:List Addr}{H:Hp}{d:D}{v:V}(h:Rp r H d v):Sco r.length d:=by
 induction h with
 | non=>exact .non
 | bl b=>exact .bl b
 | int i=>exact .int i
 | str x=>exact .str x
 | @tup ds xs a _ l _ ih=>
  refine .tup fun d hd=>?_
  obtain⟨i,hi,e⟩:=List.mem_iff_getElem.mp hd
  exact ih i d xs[i] (by simp[hi,e]) (by simp[l ▸ hi])
 | ref h=>exact .ref (List.getElem?_eq_some_iff.mp h).1
 | exc _=>exact .exc _
theorem Rp.low {r r':List Addr}{H:Hp}{d:D}{v:V}(h:Rp r' H d v)(low:∀m a,m < r.length→r'[m]?=some a→r[m]?=some a)(s:Sco r.length d):Rp r H d v:=by
 induction h with
 | non=>exact .non
 | bl b=>exact .bl b
 | int i=>exact .int i
 | str x=>exact .str x
 | tup e l f ih=>
  cases s with
  | tup s=>exact .tup e l fun i d v h1 h2=>ih i d v h1 h2 (s d (List.mem_of_getElem? h1))
 | ref h=>
  cases s with
  | ref s=>exact .ref (low _ _ s h)
 | exc h=>exact .exc h
def Pre (S S':Sto):Prop:=∀(n:Nat) (o:Ob),S[n]?=some o→S'[n]?=some o
theorem Pre.refl {S:Sto}:Pre S S:=fun _ _ h=>h
theorem Pre.push {S S':Sto}{o:Ob}(h:Pre S S'):Pre S (S'++[o]):=fun n u e=>by
 have z:=h n u e
 rw[List.getElem?_append_left (List.getElem?_eq_some_iff.mp z).1]; exact z
theorem Pre.trans {S S' S2:Sto}(h:Pre S S')(k:Pre S' S2):Pre S S2:=fun n o e=>k n o (h n o e)
theorem zqo {r r':List Addr}{H H':Hp}(e:Ext r r' H H'):∀m a,m < r.length→r'[m]?=some a→r[m]?=some a:=fun m a hm h=>by
 have z:r[m]?=some r[m]:=by simp[hm]
 rw[e.adr _ _ z] at h
 rw[z]; exact h
theorem zaU.low {K:PySem.W.Frag}{r r':List Addr}{S S':Sto}{H H':Hp}(h:zaU K r S H)(e:Ext r r' H H')(h':zaU K r' S' H')(p:Pre S S'):zaU K r S H':=by
 have rl:∀ {ds:List D} {xs ys:List V},Rps r H ds xs→Rps r' H' ds ys→Rps r H' ds ys:=fun {ds xs ys} a b=>⟨b.1,fun i d v h1 h2=>by
  obtain⟨v0,_,q⟩:=a.get h1
  exact(b.2 i d v h1 h2).low (zqo e) q.sco⟩
 refine⟨h.len,fun n a o h1 h2=>?_,fun n m a xs ys h1 h2 h3 h4 o1 o2=>h'.nd n m a xs ys (e.adr _ _ h1) (e.adr _ _ h2) (p _ _ h3) (p _ _ h4) o1 o2⟩
 have q:=h.ob n a o h1 h2
 have q':=h'.ob n a o (e.adr _ _ h1) (p _ _ h2)
 cases o with
 | lst ds=>
  obtain⟨xs,_,a1⟩:=q
  obtain⟨ys,b0,b1⟩:=q'
  exact⟨ys,b0,rl a1 b1⟩
 | frz ds=>
  obtain⟨xs,_,a1⟩:=q
  obtain⟨ys,b0,b1⟩:=q'
  exact⟨ys,b0,rl a1 b1⟩
 | ins C fs=>
  obtain⟨_,_,_,a1⟩:=q
  obtain⟨dx,fs',b0,b1⟩:=q'
  exact⟨dx,fs',b0,b1.1,rl a1.2 b1.2⟩
 | dct kvs=>
  obtain⟨_,_,a1⟩:=q
  obtain⟨ks,b0,b1⟩:=q'
  exact⟨ks,b0,b1.1,rl a1.2 b1.2⟩
def Gc (S:Sto)(Q:DK):DK:=fun d S'=>Pre S S'∧Sco S.length d∧Q d S
def GcX (S:Sto)(ex:Addr→Sto→Prop):Addr→Sto→Prop:=fun c S'=>Pre S S'∧ex c S
theorem Ret.gc {K:PySem.W.Frag}{Z Z':Zx}{r:List Addr}{S:Sto}{H:Hp}{Q:DK}{Qv:VK}(h:Ret K Z r H Q Qv)(rel:Rel K Z r S H):Ret K Z' r H (Gc S Q) Qv:=fun v H' r' d S' e rel' p q=>by
 obtain⟨pre,sc,q⟩:=q
 have e':Ext r r H H':=⟨fun _ _ z=>z,e.tup,e.xc⟩
 rw[← rel.len] at sc
 exact h v H' r d S e' ⟨rel.b.low e rel'.b pre,rel.xw.ext e'⟩ (p.low (zqo e) sc) q
theorem zep.gc {K:PySem.W.Frag}{ex:Addr→Sto→Prop}{E:XK}{r:List Addr}{S:Sto}{H:Hp}(rel:Rel K (Zc ex E) r S H):zep K (Zc (GcX S ex) E) r H:=fun dl σ c H' r' S' e _ rb q=>by
 obtain⟨pre,q⟩:=q
 have e':Ext r r H H':=⟨fun _ _ z=>z,e.tup,e.xc⟩
 exact rel.xw [] [] c H' r S e' ⟨rfl,fun i d z=>by simp at z⟩ (rel.b.low e rb pre) q
section
variable {P:Program}{w:World}{K:PySem.W.Frag}{mg:Str→Option Value}{base:Heap}
def gcS (sd:Sd):Sd:=fun ds S Q ex=>∃Q0 ex0,Q=Gc S Q0∧ex=GcX S ex0∧sd ds S Q0 ex0
theorem zb0 {CX:CXT}{k:Nat}{f:Addr}{fd:FuncData}{ps:List Str}{sd:Sd}(h:zbb P w K mg base CX k f fd ps (upF K (gcS sd))):zbb P w K mg base CX k f fd ps (upF K sd):=by
 have imp:∀vs H Q E,upF K sd vs H Q E→upF K (gcS sd) vs H Q E:=fun vs H Qv E ⟨ex,r,S,ds,Q,rel,p,q,ret⟩=>
  ⟨GcX S ex,r,S,ds,Gc S Q,⟨rel.b,zep.gc rel⟩,p,⟨Q,ex,rfl,rfl,q⟩,ret.gc rel⟩
 obtain⟨h1,h2⟩:=h
 exact⟨fun vs H Q E q=>h1 vs H Q E (imp vs H Q E q),fun A outer s H args us vs Q E hr e0 hb rv q=>h2 A outer s H args us vs Q E hr e0 hb rv (imp vs H Q E q)⟩
end
theorem zbV {sd:Sd}{n:Nat}(len:∀ds S Q ex,sd ds S Q ex→ds.length=n):∀ds S Q ex,gcS sd ds S Q ex→ds.length=n:=fun ds S Q ex h=>by
 obtain⟨Q0,ex0,_,_,h⟩:=h
 exact len _ _ _ _ h
end L3

namespace L3
open PySem PySem.Spec PyProof.Rows L2
structure zdk (sc around:Scope)(x:Str)(caps:List Str):Prop where
 kind:sc.kind=.function
 nocell:∀y∈sc.names,y.2≠.cell
 own:∀y∈sc.names,y.2=.local→sc.names.lookup y.1=some .local
 loc:sc.names.lookup x=some .local
 cap:∀y∈caps,sc.names.lookup y=some .free
 out:∀y∈sc.names,y.2=.free→around.names.lookup y.1=some .cell
theorem ziu {α:Type}{y:Str}{v:α}:∀ {l:List (Str×α)},l.lookup y=some v→(y,v)∈l
 | [],h=>by simp at h
 | (n,k)::r,h=>by
  cases e:y == n with
  | true=>
   rw[List.lookup_cons,e] at h
   have z:k=v:=Option.some.inj h
   have z2:y=n:=by simpa using e
   rw[z,z2]; exact List.mem_cons_self
  | false=>
   rw[List.lookup_cons,e] at h
   exact List.mem_cons_of_mem _ (ziu h)
theorem znm {env:Env}:∀(l:List (Str×NameKind)) (acc:List (Str×Addr)),(∀y∈l,y.2=.free→∃c,env.cells.lookup y.1=some c)→(∀x c,acc.lookup x=some c→env.cells.lookup x=some c)→
  ∃cl,(forIn l acc fun x r=>(if (x.2 == NameKind.free)=true then do let a ← cellOf env x.1; pure (ForInStep.yield ((x.1,a)::r)) else pure (ForInStep.yield r):Sem (ForInStep (List (Str×Addr)))))=pure cl∧
   (∀x c,cl.lookup x=some c→env.cells.lookup x=some c)∧(∀y∈l,y.2=.free→cl.lookup y.1=env.cells.lookup y.1)∧∀x c,acc.lookup x=some c→∃c',cl.lookup x=some c'
 | [],acc,_,ha=>⟨acc,by simp,ha,fun y hy=>(by cases hy),fun x c e=>⟨c,e⟩⟩
 | (n,k)::r,acc,h,ha=>by
  cases hk:(k == NameKind.free) with
  | false=>
   obtain⟨cl,h1,h2,h3,h4⟩:=znm r acc (fun y hy=>h y (List.mem_cons_of_mem _ hy)) ha
   refine⟨cl,?_,h2,fun y hy hf=>?_,h4⟩
   ·rw[List.forIn_cons]; simp[hk]; simpa using h1
   ·have hy':=List.mem_cons.mp hy
    rcases hy' with rfl | hy
    ·rw[show k=NameKind.free from hf] at hk; exact absurd hk (by decide)
    ·exact h3 y hy hf
  | true=>
   have hf:k=NameKind.free:=by simpa using hk
   obtain⟨c,hc⟩:=h (n,k) List.mem_cons_self hf
   obtain⟨cl,h1,h2,h3,h4⟩:=znm r ((n,c)::acc) (fun y hy=>h y (List.mem_cons_of_mem _ hy)) (fun x c' e=>by
    cases q:x == n with
    | true=>
     rw[List.lookup_cons,q] at e
     have z:x=n:=by simpa using q
     rw[z,hc]; exact e
    | false=>
     rw[List.lookup_cons,q] at e
     exact ha x c' e)
   refine⟨cl,?_,h2,fun y hy hf=>?_,fun x c' e=>?_⟩
   ·have ec:cellOf env n=pure c:=by unfold cellOf; rw[hc]
    rw[List.forIn_cons]; simp[hk,ec]; simpa using h1
   ·have hy':=List.mem_cons.mp hy
    rcases hy' with rfl | hy
    ·obtain⟨c',e⟩:=h4 n c (by simp)
     rw[e]; exact(h2 _ _ e).symm
    ·exact h3 y hy hf
   ·refine h4 x (if x == n then c else c') ?_
    cases q:x == n with
    | true=>simp[List.lookup_cons,q]
    | false=>simp[List.lookup_cons,q,e]
theorem zo4 {sc:Scope}{env:Env}(h:∀y∈sc.names,y.2=.free→∃c,env.cells.lookup y.1=some c):
  ∃cl,closureFor sc env=pure cl∧(∀x c,cl.lookup x=some c→env.cells.lookup x=some c)∧∀y∈sc.names,y.2=.free→cl.lookup y.1=env.cells.lookup y.1:=by
 obtain⟨cl,h1,h2,h3,_⟩:=znm sc.names [] h (fun x c e=>by simp at e)
 refine⟨cl,?_,h2,h3⟩
 unfold closureFor
 simp only[bind_pure]
 exact h1
theorem zn1 {env:Env}:∀ {names:List (Str×NameKind)} {x:Str},names.lookup x=some .free→
  (names.map fun (n,k)=>if (k == NameKind.free && env.scope.kind == .function && env.kindOf n == some .cell) then (n,NameKind.cell) else (n,k)).lookup x=some .cell∨
  (names.map fun (n,k)=>if (k == NameKind.free && env.scope.kind == .function && env.kindOf n == some .cell) then (n,NameKind.cell) else (n,k)).lookup x=some .free
 | [],_,h=>by simp at h
 | (n,k)::r,x,h=>by
  have ih:=@zn1 env r x
  rw[List.map_cons]
  cases hx:x == n with
  | true=>
   rw[List.lookup_cons,hx] at h
   have hk:k=.free:=Option.some.inj h
   subst hk
   dsimp only
   split
   ·left; simp[List.lookup_cons,hx]
   ·right; simp[List.lookup_cons,hx]
  | false=>
   rw[List.lookup_cons,hx] at h
   dsimp only
   split
   ·simp only[List.lookup_cons,hx]; exact ih h
   ·simp only[List.lookup_cons,hx]; exact ih h
theorem zn0 {env:Env}:∀ {names:List (Str×NameKind)} {x:Str},(∀y∈names,y.2≠.cell)→
  ((names.map fun (n,k)=>if (k == NameKind.free && env.scope.kind == .function && env.kindOf n == some .cell) then (n,NameKind.cell) else (n,k)).lookup x=some .cell∨
  (names.map fun (n,k)=>if (k == NameKind.free && env.scope.kind == .function && env.kindOf n == some .cell) then (n,NameKind.cell) else (n,k)).lookup x=some .free)→names.lookup x=some .free
 | [],_,_,h=>by simp at h
 | (n,k)::r,x,hc,h=>by
  have ih:=@zn0 env r x fun y hy=>hc y (List.mem_cons_of_mem _ hy)
  rw[List.map_cons] at h
  cases hx:x == n with
  | true=>
   rw[List.lookup_cons,hx]
   dsimp only at h
   split at h
   ·rename_i q
    simp only[Bool.and_eq_true] at q
    have hk:k=.free:=by simpa using q.1.1
    rw[hk]
   ·simp only[List.lookup_cons,hx] at h
    rcases h with h | h
    ·exact absurd (Option.some.inj h) (hc (n,k) List.mem_cons_self)
    ·exact h
  | false=>
   rw[List.lookup_cons,hx]
   dsimp only at h
   split at h
   ·simp only[List.lookup_cons,hx] at h; exact ih h
   ·simp only[List.lookup_cons,hx] at h; exact ih h
abbrev Cx.comp (X:Cx)(sc:Scope)(N:List Str)(cl:List (Str×Addr))(C:Addr)(s0:Shared)(H0:Hp)(fp:List Addr)(pn:List (Addr×Obj)):Cx:=
 { X with N:=N,env:=compEnvC sc cl C X.env,s₀:=s0,H₀:=H0,outer:=X.stack,stack:=X.stack,ex:=fp,fn:=fun _=>false,pn:=pn,xe:=fun _ _=>False }
def zbg (caps:List Nat)(σ:St):St:=caps.map fun j=>(σ[j]?).join
def zbz (caps:List Nat)(dl:Ev):Ev:=caps.map fun j=>(dl[j]?).join
def zhD (caps:List Nat)(wi:TI)(tc:TT)(te:TE):TE:=fun σ H Q=>wi σ H fun J H1=>∀D,H1 D=none→∃W:Nat→Nat→Hp→Prop,(∃m,W 0 m (upd H1 D (.lst [])))∧∀i m H,W i m H→
 (J.stop i H∧Q (.ref D) H)∨(J.go i H∧∀x H',J.yld i H x H'→tc (some x::zbg caps σ) H' fun b H2=>if b=true then te (some x::zbg caps σ) H2 fun y H3=>∃ys,H3 D=some (.lst ys)∧ys.length < sizeLine∧∃m',m' < m∧W (i + 1) m' (upd H3 D (.lst (ys++[y])))
  else ∃m',m' < m∧W (i + 1) m' H2)
def PTs (Y:Cx)(ifs:List Expr)(tc:TT):Prop:=∀(pins:List (Addr×Obj)) (s:Shared) (σ:St) (H:Hp) (Q:Bool→Hp→Prop),Inv Y pins σ H s→tc σ H Q→
 wpAny (model Y.prog Y.w) Y.A (forIn ifs true fun c r=>if r=true then do let ok ← isTrue c Y.env (eval c Y.env); pure (ForInStep.yield ok) else pure (ForInStep.yield r)) (TP Y pins σ Q) Y.xe s
theorem zs7 {Y:Cx}:PTs Y [] (fun _ H Q=>Q true H):=fun _ _ _ H _ I h=>wpAny_tests_nil ⟨H,I,h⟩
theorem zsx {Y:Cx}{c:Expr}{tc:TT}(h:PT Y c tc):PTs Y [c] tc:=fun pins s σ H Q I q=>wpAny_tests_one (h pins s σ H Q I q)
section
variable {X:Cx}{pins:List (Addr×Obj)}{σ:St}{H:Hp}{s:Shared}
theorem zrg {sc:Scope}{x:Str}{N:List Str}{caps:List Nat}{cl:List (Str×Addr)}{fp:List Addr}{h1:Heap}{m:Str→Option Value}{tk:Nat}(I:Inv X pins σ H s)(cs:zdk sc X.env.scope x N)
  (hN:∀(j:Nat) (y:Str),N[j]?=some y→∃i,caps[j]?=some i∧X.N[i]?=some y)(hlen:caps.length=N.length)
  (c1:∀x c,cl.lookup x=some c→X.env.cells.lookup x=some c)(c2:∀y∈sc.names,y.2=.free→cl.lookup y.1=X.env.cells.lookup y.1)
  (hf:∀b∈fp,zbG X pins H b)(hfo:∀b∈fp,b < s.heap.objs.size)(hns:h1.Ns s.heap.objs.size m)(hk:∀b o,s.heap.get? b=some o→h1.get? b=some o):
  Inv (Cx.comp X sc (x::N) cl s.heap.objs.size s H fp (X.pn++pins)) [] (none::zbg caps σ) H { s with heap:=h1,toks:=tk }:=by
 have stk:∀b∈frs X.stack,b=X.env.locals∨b∈X.fs:=fun b hb=>List.mem_cons.mp (I.stkSub b hb)
 refine⟨⟨I.ok.mod,cs.kind,I.ok.glob,I.ok.blt,Nat.le_refl _,fun a b c h1 h2=>I.ok.inj a b c (c1 _ _ h1) (c1 _ _ h2),fun y hy=>?_,fun _ _ z=>Bool.noConfusion z,I.ok.hd,I.ok.frames,.inl rfl,fun b hb=>⟨Nat.ne_of_lt (hfo b hb),fun y c e=>(hf b hb).2.2.2.2.1 y c (c1 _ _ e)⟩,
  I.bs,Nat.le_trans I.ok.bsz I.sz,fun b o e hb=>?_,fun b hb z=>?_,I.stack,I.stkFree⟩,rfl,I.bare,Un.kept hk,⟨m,hns,fun i y v e1 e2 e3=>?_⟩,fun y c e=>?_,I.hok.fresh (Nat.le_refl _),fun y c e=>I.freeC y c (c1 _ _ e),fun p hp=>?_,I.hok.kept hk,?_⟩
 ·have hfr:sc.names.lookup y=some .free:=zn0 cs.nocell hy
  have hm:=ziu hfr
  obtain⟨c,e⟩:=I.ok.has y (.inl (cs.out _ hm rfl))
  exact⟨c,(c2 _ hm rfl).trans e⟩
 ·rcases (hf b hb).2.2.2.1 with z | z
  ·exact I.ok.noex b o e z
  ·exact absurd (Nat.lt_of_lt_of_le (Heap.lt_size (I.ok.bs b o e).1) z) (Nat.lt_irrefl _)
 ·rcases stk b z with z | z
  ·exact(hf b hb).2.1 z
  ·exact(hf b hb).2.2.1 z
 ·cases i with
  | zero=>simp at e2
  | succ i=>
   have e1':N[i]?=some y:=by simpa using e1
   obtain⟨j,hj,hy⟩:=hN i y e1'
   have e2':σ[j]?=some (some v):=by
    simp only[List.getElem?_cons_succ,zbg,List.getElem?_map,hj,Option.map_some,Option.some.injEq] at e2
    cases q:σ[j]? with
    | none=>rw[q] at e2; cases e2
    | some o=>rw[q] at e2; simp at e2; rw[e2]
   have hfr:sc.names.lookup y=some .free:=cs.cap y (List.mem_of_getElem? e1')
   have hm:=ziu hfr
   have hce:X.env.scope.names.lookup y=some .cell:=cs.out _ hm rfl
   obtain⟨m0,_,hl⟩:=I.loc
   obtain⟨u,r,l⟩:=hl j y v hy e2' (.inr (.inl hce))
   refine⟨u,r,.inr ⟨zn1 hfr,?_⟩⟩
   rcases l with ⟨k,_⟩ | ⟨_,c,ec,hcell⟩
   ·rw[show X.env.kindOf y=some .cell from hce] at k; cases k
   ·exact⟨c,(c2 _ hm rfl).trans ec,hcell.keeps hk⟩
 ·obtain⟨v,z⟩:=I.cell y c (c1 _ _ e)
  exact⟨v,z.keeps hk⟩
 ·have hp':p∈X.pn++pins:=by simpa using hp
  obtain⟨p1,p2,p3,p4,p5⟩:=I.pin p hp'
  refine⟨hk _ _ p1,p2,Nat.ne_of_lt (Heap.lt_size p1),fun z=>?_,p5⟩
  rcases stk _ z with z | z
  ·exact p3 z
  ·exact p4 z
 ·simp[zbg,hlen]
end
section
variable {X:Cx}{elt iter:Expr}{x:Str}{px pos:Pos}{ifs:List Expr}{sc:Scope}{N:List Str}{caps:List Nat}{wi:TI}{tc:TT}{te:TE}
structure zq9 (X:Cx)(pins:List (Addr×Obj))(σ:St)(C:Addr)(Q:VK)(D:Addr)(s':Shared):Prop where
 q:∃H',Inv X pins σ H' s'∧Q (.ref D) H'∧H' C=none
 ns:∃m,s'.heap.Ns C m
 loc:C≠X.env.locals
 old:X.s₀.heap.objs.size≤C
 cell:∀x c,X.env.cells.lookup x=some c→c≠C
 pin:∀p∈X.pn++pins,p.1≠C
theorem zoQ {use:Option (Value→Sem Unit)}{Qr:Value→Shared→Prop}(hc:X.calm=true)(cs:zdk sc X.env.scope x N)(hN:∀(j:Nat) (y:Str),N[j]?=some y→∃i,caps[j]?=some i∧X.N[i]?=some y)(hlen:caps.length=N.length)(hnd:(x::N).Nodup)
  (hi:PI X (.Name x px) iter wi)(ht:∀cl C s0 H0 fp pn,PTs (Cx.comp X sc (x::N) cl C s0 H0 fp pn) ifs tc)(he:∀cl C s0 H0 fp pn,PE (Cx.comp X sc (x::N) cl C s0 H0 fp pn) elt te)
  (hs:∀y,foldedSetIterable iter X.env y=pure y)
  {pins:List (Addr×Obj)}{s:Shared}{σ:St}{H:Hp}{Q:VK}{p2:Pos}(I:Inv X pins σ H s)(h:zhD caps wi tc te σ H Q)
  (fin:∀D C s',zq9 X pins σ C Q D s'→compPost (model X.prog X.w) X.A X.xe use Qr (.ref D) C (.ok .next) s'):
  wpAny (model X.prog X.w) X.A (comprehension (.ListComp elt [⟨.Name x px,iter,ifs,0⟩] sc pos) sc X.env p2 (newList []) false (eval iter X.env) use) Qr X.xe s:=by
 obtain⟨cl,k1,k2,k3⟩:=zo4 (sc:=sc) (env:=X.env) fun y hy hf=>I.ok.has y.1 (.inl (cs.out y hy hf))
 refine wpAny_comprehension_free rfl hs k1 cs.kind cs.own (thn (hi pins s σ H _ I h) fun v s1 h1=>thn h1 fun itv s2 h2=>?_)
 obtain⟨it,fp,tn,J,H2,e,I2,T,st2,f2,body⟩:=h2
 subst e
 have hfo:∀b∈fp,b < s2.heap.objs.size:=fun b hb=>by
  obtain⟨o,e,_⟩:=T.obj _ _ st2 b hb
  exact Heap.lt_size e
 have hD:H2 s2.heap.objs.size=none:=I2.hok.fresh (Nat.le_refl _)
 obtain⟨W,⟨m0,w0⟩,turn⟩:=body _ hD
 refine wpAny_newObj_type ?_
 have I3:Inv X pins σ (upd H2 s2.heap.objs.size (.lst [])) { s2 with heap:=s2.heap.push { cls:=.type "list",dict:=none,data:=.seq ([]:List Value).toArray },toks:=s2.toks }:=
  I2.laid (t':=s2.toks) (fun b u e=>Heap.get?_push_of_some _ e) (Nat.le_refl _) ⟨Nat.zero_le _,[],0,.nil,Heap.get?_push_size _ rfl⟩
 generalize hs3:({ s2 with heap:=s2.heap.push { cls:=.type "list",dict:=none,data:=.seq ([]:List Value).toArray },toks:=s2.toks }:Shared)=s3 at I3
 have es3:({ s2 with heap:=s2.heap.push { cls:=.type "list",dict:=none,data:=.seq ([]:List Value).toArray } }:Shared)=s3:=hs3
 try rw[es3]
 have f3:∀b∈fp,zbG X pins (upd H2 s2.heap.objs.size (.lst [])) b:=fun b hb=>⟨by rw[za2 (Nat.ne_of_lt (hfo b hb))]; exact(f2 b hb).1,(f2 b hb).2⟩
 have up3:∀b o,s2.heap.get? b=some o→s3.heap.get? b=some o:=fun b o e=>by rw[← hs3]; exact Heap.get?_push_of_some _ e
 have st3:tn 0 s3.heap:=T.keep _ _ _ st2 fun b _ o e=>up3 b o e
 have hfo3:∀b∈fp,b < s3.heap.objs.size:=fun b hb=>by
  obtain⟨o,e,_⟩:=T.obj _ _ st3 b hb
  exact Heap.lt_size e
 refine wpAny_newFunctionEnv cs.nocell (fun y hy=>by simp at hy) (fun h4 ns4 sb4=>?_) cs.kind
 have hk4:∀b o,s3.heap.get? b=some o→h4.get? b=some o:=fun b o e=>(sb4.2 b (Nat.ne_of_lt (Heap.lt_size e))).trans (Heap.get?_push_of_some _ e)
 have I4:=zrg (tk:=s3.toks + ([]:List (Str×Value)).length) I3 cs hN hlen k2 k3 f3 hfo3 ns4 hk4
 generalize hs4:({ s3 with heap:=h4,toks:=s3.toks + ([]:List (Str×Value)).length }:Shared)=s4 at I4 ⊢
 have eh4:s4.heap=h4:=by rw[← hs4]
 have st4:tn 0 s4.heap:=by rw[eh4]; exact T.keep _ _ _ st3 fun b _ o e=>hk4 b o e
 have fY:∀ {H':Hp},(∀b∈fp,H' b=none)→∀b∈fp,zbG (Cx.comp X sc (x::N) cl s3.heap.objs.size s3 (upd H2 s2.heap.objs.size (.lst [])) fp (X.pn++pins)) [] H' b:=fun hn b hb=>by
  obtain⟨_,z2,z3,z4,z5,z6⟩:=f3 b hb
  refine⟨hn b hb,Nat.ne_of_lt (hfo3 b hb),fun z=>?_,.inl hb,fun y c e=>z5 y c (k2 _ _ e),fun p hp=>z6 p (by simpa using hp)⟩
  rcases List.mem_cons.mp (I3.stkSub b z) with z | z
  ·exact z2 z
  ·exact z3 z
 have locY:(Cx.comp X sc (x::N) cl s3.heap.objs.size s3 (upd H2 s2.heap.objs.size (.lst [])) fp (X.pn++pins)).env.scope.names.lookup x=some .local:=lookup_relabel_local cs.loc
 have loop:codeAny (model X.prog X.w) X.A (.compLoop (.ListComp elt [⟨.Name x px,iter,ifs,0⟩] sc pos) 0 (.ref it) (.ref s2.heap.objs.size) (compEnvC sc cl s3.heap.objs.size X.env))
   (compPost (model X.prog X.w) X.A X.xe use Qr (.ref s2.heap.objs.size) s3.heap.objs.size) s4:=by
  refine codeAny_compLoop_tests (fun n s'=>∃i o H',Inv (Cx.comp X sc (x::N) cl s3.heap.objs.size s3 (upd H2 s2.heap.objs.size (.lst [])) fp (X.pn++pins)) [] (o::zbg caps σ) H' s'∧tn i s'.heap∧(∀b∈fp,H' b=none)∧W i n H') ?_ m0
   ⟨0,none,_,I4,st4,fun b hb=>(f3 b hb).1,w0⟩
  rintro n s5 ⟨i,o,H5,I5,st5,fr5,w5⟩
  rcases turn i n H5 w5 with ⟨stop,q⟩ | ⟨go,step⟩
  ·refine thn (T.done (Cx.comp X sc (x::N) cl s3.heap.objs.size s3 (upd H2 s2.heap.objs.size (.lst [])) fp (X.pn++pins)) rfl rfl rfl hc i [] s5 _ H5 _ I5 (fY fr5) st5 stop) fun r s6 ⟨hr,I6⟩=>?_
   subst hr
   refine fin _ _ _ ⟨⟨H5,I3.call' I6.os I6.base I6.hok I6.bare (fun b hb=>?_),q,I6.free⟩,?_,Nat.ne_of_gt I3.lt,I3.sz,fun y c e z=>?_,fun p hp z=>?_⟩
   ·obtain⟨_,z2,z3,z4,z5,z6⟩:=f3 b hb
    exact⟨z4,z2,z5,z6⟩
   ·obtain⟨m,hm,_⟩:=I6.loc
    exact⟨m,hm⟩
   ·obtain⟨v,hv⟩:=I3.cell y c e
    exact absurd (z ▸ hv.lt) (Nat.lt_irrefl _)
   ·exact absurd (z ▸ Heap.lt_size (I3.pin p hp).1) (Nat.lt_irrefl _)
  ·refine thn (T.item (Cx.comp X sc (x::N) cl s3.heap.objs.size s3 (upd H2 s2.heap.objs.size (.lst [])) fp (X.pn++pins)) rfl rfl rfl hc i [] s5 _ H5 _ I5 (fY fr5) st5 go) fun r s6 ⟨u,hr,h6⟩=>?_
   subst hr
   show wpAny _ _ (letOwnedTupleGo (.Name x px) (.ref it) u >>= fun _=>assign (.Name x px) (compEnvC sc cl s3.heap.objs.size X.env) u) _ _ s6
   refine wpAny_bind (thn h6 fun _ s7 ⟨y,H7,I7,r7,y7,st7,fr7⟩=>?_)
   have I7':=I7.pinned (fY fr7) (T.obj _ _ st7)
   refine wpAny_mono (zl0 (X:=Cx.comp X sc (x::N) cl s3.heap.objs.size s3 (upd H2 s2.heap.objs.size (.lst [])) fp (X.pn++pins)) (pos:=px) hnd (i:=0) rfl (.inl locY) (.inr locY) _ s7 _ H7 y u (fun σ8 H8=>σ8=some y::zbg caps σ∧H8=H7) I7' r7 ⟨rfl,rfl⟩) (fun _ s8 ⟨σ8,H8,I8,e8,e8'⟩=>?_) fun _ _ z=>z.elim
   subst e8
   subst e8'
   have stay:∀ {H':Hp} {s':Shared},Inv (Cx.comp X sc (x::N) cl s3.heap.objs.size s3 (upd H2 s2.heap.objs.size (.lst [])) fp (X.pn++pins)) ([]++zfJ fp s7.heap) (some y::zbg caps σ) H' s'→∀m',m' < n→W (i + 1) m' H'→
     ∃m,m < n∧∃i o H',Inv (Cx.comp X sc (x::N) cl s3.heap.objs.size s3 (upd H2 s2.heap.objs.size (.lst [])) fp (X.pn++pins)) [] (o::zbg caps σ) H' s'∧tn i s'.heap∧(∀b∈fp,H' b=none)∧W i m H':=fun {H' s'} J m' hm w'=>by
    refine⟨m',hm,i + 1,some y,H',J.unpinned,T.keep _ _ _ st7 fun b hb o e=>(J.pin (b,o) (List.mem_append_right _ (List.mem_append_right _ (zeH hb e)))).1,fun b hb=>?_,w'⟩
    obtain⟨o,e,d⟩:=T.obj _ _ st7 b hb
    exact(J.pin (b,o) (List.mem_append_right _ (List.mem_append_right _ (zeH hb e)))).2.1
   refine wpAny_mono (ht _ _ _ _ _ _ _ s8 _ H8 _ I8 (step y H8 y7)) (fun b s9 ⟨H9,I9,q9⟩=>?_) fun _ _ z=>z.elim
   cases b with
   | false=>
    rw[if_neg Bool.false_ne_true] at q9 ⊢
    obtain⟨m',hm,w9⟩:=q9
    exact stay I9 m' hm w9
   | true=>
    rw[if_pos rfl] at q9 ⊢
    refine wpAny_mono (he _ _ _ _ _ _ _ s9 _ H9 _ I9 q9) (fun u2 s10 ⟨z,H10,I10,r10,q10⟩=>?_) fun _ _ z=>z.elim
    obtain⟨ys,hD10,hlt,m',hm,w10⟩:=q10
    refine wpAny_mono (zne (X:=(Cx.comp X sc (x::N) cl s3.heap.objs.size s3 (upd H2 s2.heap.objs.size (.lst [])) fp (X.pn++pins))) _ s10 _ H10 (.ref s2.heap.objs.size) [z] (.ref s2.heap.objs.size) [u2] (fun _ H'=>H'=upd H10 s2.heap.objs.size (.lst (ys++[z]))) I10 rfl (.cons r10 .nil) ⟨_,ys,z,rfl,rfl,hD10,hlt,rfl⟩) (fun _ s11 ⟨_,H11,I11,_,e11⟩=>?_) fun _ _ z=>z.elim
    subst e11
    exact stay I11 m' hm w10
 exact codeAny_compStart_list loop (T.self _ 0 s4 _ _ st4 loop)
theorem zdV {X:Cx}{caps:List Nat}{N:List Str}(h:caps.map (fun i=>X.N[i]?)=N.map some):(∀(j:Nat) (y:Str),N[j]?=some y→∃i,caps[j]?=some i∧X.N[i]?=some y)∧caps.length=N.length:=by
 refine⟨fun j y e=>?_,by simpa using congrArg List.length h⟩
 have z:(caps.map (fun i=>X.N[i]?))[j]?=some (some y):=by rw[h,List.getElem?_map,e]; rfl
 rw[List.getElem?_map] at z
 cases q:caps[j]? with
 | none=>rw[q] at z; cases z
 | some i=>rw[q] at z; exact⟨i,rfl,by simpa using z⟩
theorem zp6 (hc:X.calm=true)(cs:zdk sc X.env.scope x N)(hN:caps.map (fun i=>X.N[i]?)=N.map some)(hnd:(x::N).Nodup)
  (hi:PI X (.Name x px) iter wi)(ht:∀cl C s0 H0 fp pn,PTs (Cx.comp X sc (x::N) cl C s0 H0 fp pn) ifs tc)(he:∀cl C s0 H0 fp pn,PE (Cx.comp X sc (x::N) cl C s0 H0 fp pn) elt te)
  (hs:∀y,foldedSetIterable iter X.env y=pure y:=by intro _; rfl):PE X (.ListComp elt [⟨.Name x px,iter,ifs,0⟩] sc pos) (zhD caps wi tc te):=by
 intro pins s σ H Q I h
 rw[eval_ListComp]
 refine zoQ (use:=none) hc cs (zdV hN).1 (zdV hN).2 hnd hi ht he hs I h fun D C s' f=>?_
 obtain⟨⟨H',I',q,hC⟩,⟨m,ns⟩,l,o,c,p⟩:=f
 exact⟨m,ns,fun h' sb=>⟨.ref D,H',I'.turned (t':=s'.toks) (fun b ob hb e=>(sb.2 b hb).trans e) hC l (.inr o) c p,rfl,q⟩⟩
theorem zqy {i:Nat}{y:Str}{py spos:Pos}(hc:X.calm=true)(cs:zdk sc X.env.scope x N)(hN:caps.map (fun i=>X.N[i]?)=N.map some)(hnd:(x::N).Nodup)
  (hi:PI X (.Name x px) iter wi)(ht:∀cl C s0 H0 fp pn,PTs (Cx.comp X sc (x::N) cl C s0 H0 fp pn) ifs tc)(he:∀cl C s0 H0 fp pn,PE (Cx.comp X sc (x::N) cl C s0 H0 fp pn) elt te)
  (hNd:X.N.Nodup)(hy:X.N[i]?=some y)(hl:X.env.scope.names.lookup y=some .local)
  (hsw:swapsWith (.ListComp elt [⟨.Name x px,iter,ifs,0⟩] sc pos) (some (.Name y py)) spos.line X.env=pure true)
  (hs:∀y,foldedSetIterable iter X.env y=pure y:=by intro _; rfl):PS X (.Assign [.Name y py] (.ListComp elt [⟨.Name x px,iter,ifs,0⟩] sc pos) spos) (fun E σ H=>zhD caps wi tc te σ H fun v H1=>E.nx (σ.set i (some v)) H1):=by
 intro pins s σ H E I h
 rw[exec_Assign_Name_used (hs:=hsw)]
 refine wpAny_bind (wpAny_standAt ?_); refine wpAny_bind ?_; show wpAny _ _ (comprehension _ sc X.env _ (newList []) false (eval iter X.env) (some (assign (.Name y py) X.env)) >>= fun _=>pure ()) _ _ s
 refine wpAny_bind (thn (zoQ (use:=some (assign (.Name y py) X.env)) (Qr:=fun _ s'=>SP X pins E .next s') hc cs (zdV hN).1 (zdV hN).2 hnd hi ht he hs I h fun D C s' f=>?_) fun _ s' hq=>wpAny_pure (wpAny_pure hq))
 obtain⟨⟨H',I',q,hC⟩,⟨m,ns⟩,l,o,c,p⟩:=f
 refine wpAny_assign_Name (zn6 (v:=.ref D) I' hNd hy (.inl hl) rfl (fun s'' I'' ⟨a,sb,ha⟩=>⟨m,ns.sameBut sb ?_,fun h' sb'=>⟨_,H',I''.turned (t':=s''.toks) (fun b ob hb e=>(sb'.2 b hb).trans e) hC l (.inr o) c p,q⟩⟩) (.inr hl))
 rcases ha with rfl | ha
 ·exact l
 ·exact Ne.symm (c _ _ ha)
end

section
variable {X:Cx}{Z:Zx}{elt iter:Expr}{x:Str}{px pos:Pos}{ifs:List Expr}{sc ar:Scope}{N:List Str}{caps:List Nat}
theorem zoO {r:List Addr}{H:Hp}{dl:Ev}{σ:St}{d:D}{v:V}(h:Rs r H dl σ)(p:Rp r H d v):Rs r H (some d::zbz caps dl) (some v::zbg caps σ):=by
 refine⟨by simp[zbz,zbg],fun i e hi=>?_⟩
 cases i with
 | zero=>simp at hi; subst hi; exact⟨v,rfl,p⟩
 | succ i=>
  simp only[List.getElem?_cons_succ,zbz,List.getElem?_map] at hi
  cases q:caps[i]? with
  | none=>rw[q] at hi; cases hi
  | some j=>
   rw[q] at hi
   simp only[Option.map_some,Option.some.injEq] at hi
   have hj:dl[j]?=some (some e):=by
    cases q2:dl[j]? with
    | none=>rw[q2] at hi; cases hi
    | some o=>rw[q2] at hi; simp at hi; rw[hi]
   obtain⟨w,h1,h2⟩:=h.2 j e hj
   refine⟨w,?_,h2⟩
   simp only[List.getElem?_cons_succ,zbg,List.getElem?_map,q,Option.map_some,h1,Option.join_some]
def zeP (Y:Cx)(ifs:List Expr)(t:TDT):Prop:=PTs Y ifs (upT Y.K Z0 t)
def zcp:TDT:=fun _ S Q=>Q true S
theorem zb9 {Y:Cx}:zeP Y [] zcp:=fun pins s σ H Qb I ⟨r,dl,S,Q,rs,rel,q,ret⟩=>zs7 pins s σ H Qb I (ret true H r S Ext.refl rel q)
theorem zqZ {Y:Cx}{c:Expr}{t:TDT}(h:PDT Y Z0 c t):zeP Y [c] t:=zsx h
def zdf (caps:List Nat)(tc:TDT)(te:TDE)(k:Nat)(dl:Ev)(d:D)(S:Sto)(nx:Sto→Prop):Prop:=
 tc (some d::zbz caps dl) S fun b S1=>if b=true then te (some d::zbz caps dl) S1 fun y S2=>match S2[k]? with
  | some (.lst ys)=>ys.length < 1000∧nx (S2.set k (.lst (ys++[y])))
  | _=>False
 else nx S1
@[irreducible] def zcj (caps:List Nat)(tl:TDE)(tc:TDT)(te:TDE):TDE:=fun dl S Q=>tl dl S fun d S1=>match d with
 | .ref n=>(lAt S1 n).isSome=true∧∃W:Nat→Nat→Sto→Prop,(∃m,W 0 m (S1++[.lst []]))∧∀k m S2,W k m S2→match lAt S2 n with
  | some o=>match (zai o)[k]? with
   | some y=>zdf caps tc te S1.length dl y S2 fun S3=>∃m',m' < m∧W (k + 1) m' S3
   | none=>Q (.ref S1.length) S2
  | none=>False
 | _=>False
@[irreducible] def zdj (caps:List Nat)(ta:TDA)(tc:TDT)(te:TDE):TDE:=fun dl S Q=>ta dl S fun ds S1=>match ds with
 | [.int j]=>(-(2 ^ 62)≤j∧j < 2 ^ 62)∧∃W:Nat→Sto→Prop,W 0 (S1++[.lst []])∧∀k S2,W k S2→
   if k < j.toNat then zdf caps tc te S1.length dl (.int k) S2 fun S3=>W (k + 1) S3 else Q (.ref S1.length) S2
 | _=>False
theorem zp3 {tc:TDT}{te:TDE}{r2:List Addr}{H2:Hp}{S1 S2:Sto}{dl:Ev}{σ:St}{D0:Addr}{d:D}{v:V}{nx:Sto→Prop}{Nx:Hp→Prop}(rs:Rs r2 H2 dl σ)(ha:r2[S1.length]?=some D0)(rb:zaU X.K r2 S2 H2)(p:Rp r2 H2 d v)
  (h:zdf caps tc te S1.length dl d S2 nx)(hn:∀r' S' H',Ext r2 r' H2 H'→zaU X.K r' S' H'→nx S'→Nx H'):
  upT X.K Z0 tc (some v::zbg caps σ) H2 fun b H3=>if b=true then up X.K Z0 te (some v::zbg caps σ) H3 fun y H4=>∃ys,H4 D0=some (.lst ys)∧ys.length < sizeLine∧Nx (upd H4 D0 (.lst (ys++[y]))) else Nx H3:=by
 have rsY:Rs r2 H2 (some d::zbz caps dl) (some v::zbg caps σ):=zoO rs p
 refine⟨r2,_,S2,_,rsY,⟨rb,fun _ _ _ _ _ _ _ _ _ z=>z.elim⟩,h,fun b H3 r3 S3 x3 rel3 q3=>?_⟩
 cases b with
 | false=>rw[if_neg Bool.false_ne_true] at q3 ⊢; exact hn r3 S3 H3 x3 rel3.b q3
 | true=>
  rw[if_pos rfl] at q3 ⊢
  refine⟨r3,_,S3,_,rsY.ext x3,rel3,q3,fun z H4 r4 dz S4 x4 rel4 p4 q4=>?_⟩
  split at q4
  ·rename_i ys eys
   obtain⟨hl,q4⟩:=q4
   have ha4:r4[S1.length]?=some D0:=x4.adr _ _ (x3.adr _ _ ha)
   obtain⟨zs,hD4,pz⟩:=rel4.b.ob _ _ _ ha4 eys
   obtain⟨rel5,x5⟩:=rel4.b.set ha4 eys (pz.snoc p4)
   exact⟨zs,hD4,by rw[← pz.1]; exact zhm (Nat.le_of_lt hl),hn r4 _ _ (x3.trans (x4.trans x5)) rel5 q4⟩
  ·exact q4.elim
theorem zh8 {r:List Addr}{D0:Addr}{n:Nat}(h:r.length=n):(r++[D0])[n]?=some D0:=by subst h; simp
theorem zpc {tl:TDE}{tc:TDT}{te:TDE}{σ:St}{H:Hp}{Qv:VK}(h:up X.K Z (zcj caps tl tc te) σ H Qv):zhD caps (zq4 X.K (up X.K Z tl)) (upT X.K Z0 tc) (up X.K Z0 te) σ H Qv:=by
 obtain⟨r,dl,S,Q,rs,rel,h,ret⟩:=h
 unfold zcj at h
 refine⟨r,dl,S,_,rs,rel,h,fun v H1 r1 d S1 x1 rel1 p1 q1=>?_⟩
 cases p1 with
 | @ref n a hn=>
  obtain⟨hsome,W,⟨m0,w0⟩,turn⟩:=q1
  have sql:∀ {r':List Addr} {S':Sto} {H':Hp} {o:Ob},Ext r1 r' H1 H'→zaU X.K r' S' H'→lAt S' n=some o→∃xs,SqL X.K H' a xs∧Rps r' H' (zai o) xs:=fun {r' S' H' o} x' rel' eo=>by
   obtain⟨eo,eL⟩:=zbt eo
   obtain⟨a',ha,ob⟩:=rel'.at eo
   rw[x'.adr n a hn] at ha; cases ha
   exact ob.list eL
  obtain⟨o1,eo1⟩:=Option.isSome_iff_exists.mp hsome
  obtain⟨xs1,sq1,_⟩:=sql Ext.refl rel1.b eo1
  refine⟨a,rfl,⟨xs1,sq1⟩,fun D0 hD=>?_⟩
  obtain⟨rel2,x2⟩:=rel1.b.push (ds:=[]) (xs:=[]) hD Rps.nil
  refine⟨fun k m H'=>∃r' S',Ext (r1++[D0]) r' (upd H1 D0 (.lst [])) H'∧zaU X.K r' S' H'∧W k m S',⟨m0,_,_,Ext.refl,rel2,w0⟩,?_⟩
  rintro k m H2 ⟨r2,S2,x3,rb2,w2⟩
  have ha2:r2[S1.length]?=some D0:=x3.adr _ _ (zh8 rel1.len)
  have q:=turn k m S2 w2
  split at q
  ·rename_i o eo
   obtain⟨xs,sq,pr⟩:=sql (x2.trans x3) rb2 eo
   split at q
   ·rename_i y ey
    obtain⟨v,hv,pv⟩:=pr.get ey
    refine .inr ⟨⟨xs,v,sq,hv⟩,fun v' H' y'=>?_⟩
    obtain⟨eH,y'⟩:=y'
    subst eH
    have ev:v'=v:=by
     have z:=y' xs sq
     rw[hv] at z; exact(Option.some.inj z).symm
    subst ev
    have z:=zp3 (Nx:=fun H'=>∃m',m' < m∧∃r' S',Ext (r1++[D0]) r' (upd H1 D0 (.lst [])) H'∧zaU X.K r' S' H'∧W (k + 1) m' S') (rs.ext (x1.trans (x2.trans x3))) ha2 rb2 pv q fun r' S' H' x' rb' ⟨m',hm,w'⟩=>⟨m',hm,r',S',x3.trans x',rb',w'⟩
    exact z
   ·rename_i ey
    have hlen:(zai o).length≤k:=List.getElem?_eq_none_iff.mp ey
    exact .inl ⟨⟨xs,sq,by rw[← pr.1]; exact hlen⟩,ret _ H2 r2 _ S2 (x1.trans (x2.trans x3)) ⟨rb2,rel.xw.ext (x1.trans (x2.trans x3))⟩ (.ref ha2) q⟩
  ·exact q.elim
 | _=>exact(show False from q1).elim
theorem zoZ {ta:TDA}{tc:TDT}{te:TDE}{σ:St}{H:Hp}{Qv:VK}(h:up X.K Z (zdj caps ta tc te) σ H Qv):zhD caps (zqR (upA X.K Z ta)) (upT X.K Z0 tc) (up X.K Z0 te) σ H Qv:=by
 obtain⟨r,dl,S,Q,rs,rel,h,ret⟩:=h
 unfold zdj at h
 refine⟨r,dl,S,_,rs,rel,h,fun vs H1 r1 ds S1 x1 rel1 p1 q1=>?_⟩
 split at q1
 ·rename_i j
  obtain⟨v,vs',rfl,p2,p3⟩:=p1.uncons
  have z:=p3.unnil
  subst z
  cases p2
  obtain⟨⟨b1,b2⟩,W,w0,turn⟩:=q1
  refine⟨j,rfl,b1,b2,fun D0 hD=>?_⟩
  obtain⟨rel2,x2⟩:=rel1.b.push (ds:=[]) (xs:=[]) hD Rps.nil
  refine⟨fun k m H'=>m=j.toNat - k∧∃r' S',Ext (r1++[D0]) r' (upd H1 D0 (.lst [])) H'∧zaU X.K r' S' H'∧W k S',⟨j.toNat,by simp,_,_,Ext.refl,rel2,w0⟩,?_⟩
  rintro k m H2 ⟨em,r2,S2,x3,rb2,w2⟩
  have ha2:r2[S1.length]?=some D0:=x3.adr _ _ (zh8 rel1.len)
  have q:=turn k S2 w2
  split at q
  ·rename_i hk
   refine .inr ⟨hk,fun v' H' y'=>?_⟩
   obtain⟨eH,y'⟩:=y'
   subst eH
   subst y'
   have pk:Rp r2 H' (.int (k:Int)) (.int (0 + (k:Int))):=by rw[Int.zero_add]; exact .int _
   have z:=zp3 (Nx:=fun H'=>∃m',m' < m∧m'=j.toNat - (k + 1)∧∃r' S',Ext (r1++[D0]) r' (upd H1 D0 (.lst [])) H'∧zaU X.K r' S' H'∧W (k + 1) S') (rs.ext (x1.trans (x2.trans x3))) ha2 rb2 pk q
    fun r' S' H' x' rb' w'=>⟨j.toNat - (k + 1),by omega,rfl,r',S',x3.trans x',rb',w'⟩
   exact z
  ·rename_i hk
   exact .inl ⟨by show j.toNat≤k; omega,ret _ H2 r2 _ S2 (x1.trans (x2.trans x3)) ⟨rb2,rel.xw.ext (x1.trans (x2.trans x3))⟩ (.ref ha2) q⟩
 ·exact q1.elim
theorem zdd {tl:TDE}{tc:TDT}{te:TDE}(har:X.env.scope=ar)(hc:X.calm=true)(cs:zdk sc ar x N)(hN:caps.map (fun i=>X.N[i]?)=N.map some)(hnd:(x::N).Nodup)(hl:PD X Z iter tl)
  (ht:∀cl C s0 H0 fp pn,zeP (Cx.comp X sc (x::N) cl C s0 H0 fp pn) ifs tc)(he:∀cl C s0 H0 fp pn,PD (Cx.comp X sc (x::N) cl C s0 H0 fp pn) Z0 elt te)
  (hs:∀y,foldedSetIterable iter X.env y=pure y:=by intro _; rfl):PD X Z (.ListComp elt [⟨.Name x px,iter,ifs,0⟩] sc pos) (zcj caps tl tc te):=by
 subst har
 exact za8 (zp6 hc cs hN hnd (tc:=upT X.K Z0 tc) (te:=up X.K Z0 te) (znv hl) ht he hs) fun _ _ _ h=>zpc h
theorem zmZ {ta:TDA}{tc:TDT}{te:TDE}{a:Expr}{p pos2:Pos}(har:X.env.scope=ar)(hc:X.calm=true)(cs:zdk sc ar x N)(hN:caps.map (fun i=>X.N[i]?)=N.map some)(hnd:(x::N).Nodup)(hg:Gl X "range")(hm:X.mg "range"=none)(ha:PDA X Z [a] ta)
  (ht:∀cl C s0 H0 fp pn,zeP (Cx.comp X sc (x::N) cl C s0 H0 fp pn) ifs tc)(he:∀cl C s0 H0 fp pn,PD (Cx.comp X sc (x::N) cl C s0 H0 fp pn) Z0 elt te)
  (hs:∀y,foldedSetIterable (.Call (.Name "range" p) [a] [] pos2) X.env y=pure y:=by intro _; rfl)(hst:starEach [a] X.env=[(false,eval a X.env)]:=by rfl):
  PD X Z (.ListComp elt [⟨.Name x px,.Call (.Name "range" p) [a] [] pos2,ifs,0⟩] sc pos) (zdj caps ta tc te):=by
 subst har
 exact za8 (zp6 hc cs hN hnd (tc:=upT X.K Z0 tc) (te:=up X.K Z0 te) (znH hg hm ha hst) ht he hs) fun _ _ _ h=>zoZ h
theorem zoq {t:TE}{td:TDE}{i:Nat}{F:zdJ}{σ:St}{H:Hp}(imp:∀Qv,up X.K Z td σ H Qv→t σ H Qv)(h:upS X.K Z (fun E dl S=>td dl S fun d S1=>E.nx (dl.set i (some d)) S1) F σ H):t σ H fun v H1=>F.nx (σ.set i (some v)) H1:=by
 obtain⟨r,dl,S,E,rs,rel,h,ret⟩:=h
 exact imp _ ⟨r,dl,S,_,rs,rel,h,fun v H1 r1 d S1 x rel1 p q=>ret.nx _ H1 r1 _ S1 x ((rs.ext x).set i p) rel1 q⟩
theorem zoW {tl:TDE}{tc:TDT}{te:TDE}{i:Nat}{y:Str}{py spos:Pos}(har:X.env.scope=ar)(hc:X.calm=true)(cs:zdk sc ar x N)(hN:caps.map (fun i=>X.N[i]?)=N.map some)(hnd:(x::N).Nodup)(hNd:X.N.Nodup)(hy:X.N[i]?=some y)(hlo:ar.names.lookup y=some .local)
  (hl:PD X Z iter tl)(ht:∀cl C s0 H0 fp pn,zeP (Cx.comp X sc (x::N) cl C s0 H0 fp pn) ifs tc)(he:∀cl C s0 H0 fp pn,PD (Cx.comp X sc (x::N) cl C s0 H0 fp pn) Z0 elt te)
  (hsw:swapsWith (.ListComp elt [⟨.Name x px,iter,ifs,0⟩] sc pos) (some (.Name y py)) spos.line X.env=pure true:=by rfl)
  (hs:∀y,foldedSetIterable iter X.env y=pure y:=by intro _; rfl):PDS X Z (.Assign [.Name y py] (.ListComp elt [⟨.Name x px,iter,ifs,0⟩] sc pos) spos) (zhx i (zcj caps tl tc te)):=by
 subst har
 exact zb7 (zqy hc cs hN hnd (tc:=upT X.K Z0 tc) (te:=up X.K Z0 te) (znv hl) ht he hNd hy hlo hsw hs) fun F σ H h=>zoq (fun _ h=>zpc h) h
theorem zo1 {ta:TDA}{tc:TDT}{te:TDE}{a:Expr}{p pos2:Pos}{i:Nat}{y:Str}{py spos:Pos}(har:X.env.scope=ar)(hc:X.calm=true)(cs:zdk sc ar x N)(hN:caps.map (fun i=>X.N[i]?)=N.map some)(hnd:(x::N).Nodup)(hNd:X.N.Nodup)(hy:X.N[i]?=some y)
  (hlo:ar.names.lookup y=some .local)(hg:Gl X "range")(hm:X.mg "range"=none)(ha:PDA X Z [a] ta)
  (ht:∀cl C s0 H0 fp pn,zeP (Cx.comp X sc (x::N) cl C s0 H0 fp pn) ifs tc)(he:∀cl C s0 H0 fp pn,PD (Cx.comp X sc (x::N) cl C s0 H0 fp pn) Z0 elt te)
  (hsw:swapsWith (.ListComp elt [⟨.Name x px,.Call (.Name "range" p) [a] [] pos2,ifs,0⟩] sc pos) (some (.Name y py)) spos.line X.env=pure true:=by rfl)
  (hs:∀y,foldedSetIterable (.Call (.Name "range" p) [a] [] pos2) X.env y=pure y:=by intro _; rfl)(hst:starEach [a] X.env=[(false,eval a X.env)]:=by rfl):
  PDS X Z (.Assign [.Name y py] (.ListComp elt [⟨.Name x px,.Call (.Name "range" p) [a] [] pos2,ifs,0⟩] sc pos) spos) (zhx i (zdj caps ta tc te)):=by
 subst har
 exact zb7 (zqy hc cs hN hnd (tc:=upT X.K Z0 tc) (te:=up X.K Z0 te) (znH hg hm ha hst) ht he hNd hy hlo hsw hs) fun F σ H h=>zoq (fun _ h=>zoZ h) h

@[irreducible] def zdQ (to te:TDE):TDE:=fun dl S Q=>to dl S fun x S1=>match x with
 | .ref n=>match S1[n]? with
  | some (.lst _)=>te dl S1 fun y S2=>match S2[n]? with
   | some (.lst xs)=>if xs.length < 1000 then Q .non (S2.set n (.lst (xs++[y]))) else False
   | _=>False
  | _=>False
 | _=>False
theorem zcM {o e:Expr}{to te:TDE}{apos cpos:Pos}(ho:PD X Z o to)(he:PD X Z e te)(hbase:attributeBase o "append" X.env (eval o X.env)=eval o X.env:=by rfl)
  (hfew:((backTo cpos (starEach [e] X.env)).all (fun x=>!x.1) && (backToKw cpos (keywordEach [] X.env)).all (fun x=>x.1.isSome)
   && decide (([e]:List Expr).length + ([]:List Keyword).length + (if ([]:List Keyword).isEmpty then 0 else 1) < 30))=true:=by rfl)
  (hline:(apos.endLine == cpos.line)=true:=by rfl)(hst:starEach [e] X.env=[(false,eval e X.env)]:=by rfl):
  PD X Z (.Call (.Attribute o "append" apos) [e] [] cpos) (zdQ to te):=
 za8 (zq7 PySem.F.plainAttrs_list PySem.F.slot_list_append PySem.F.type_list_append zne ho (zft he ziH hst) hbase hfew hline hst rfl) fun σ H Qv h=>by
  obtain⟨r,dl,S,Q,rs,rel,h,ret⟩:=h
  unfold zdQ at h
  refine⟨r,dl,S,_,rs,rel,h,fun v H1 r1 d S1 x1 rel1 p1 h1=>?_⟩
  cases p1 with
  | @ref n a hn=>
   dsimp only at h1
   split at h1
   ·rename_i xs0 e0
    obtain⟨a',ha,ob⟩:=rel1.at e0
    rw[hn] at ha; cases ha
    obtain⟨ys,hH,_⟩:=ob
    refine⟨.inl ⟨rfl,ys,SqL.of hH⟩,r1,dl,S1,_,rs.ext x1,rel1,h1,fun v2 H2 r2 d2 S2 x2 rel2 p2 h2=>?_⟩
    split at h2
    ·rename_i xs1 e1
     obtain⟨hlt,h2⟩:=zkm h2
     have ha2:=x2.adr n a hn
     obtain⟨zs,hH2,pz⟩:=rel2.b.ob n a _ ha2 e1
     obtain⟨rel3,x3⟩:=rel2.set ha2 e1 (pz.snoc p2)
     exact⟨a,zs,v2,rfl,rfl,hH2,by rw[← pz.1]; exact zhm (Nat.le_of_lt hlt),ret .non _ r2 .non _ (x1.trans (x2.trans x3)) rel3 .non h2⟩
    ·exact h2.elim
   ·exact h1.elim
  | _=>exact(show False from h1).elim
def zi3:WC:=fun ds S Q=>match ds with
 | [.tup xs]=>Q (.ref S.length) (S++[.lst xs])
 | [.ref n]=>match lAt S n with
  | some o=>Q (.ref S.length) (S++[.lst (zai o)])
  | none=>False
 | _=>False
theorem zcL:zbd X (.type "list") (upC X.K Z zi3):=znB zvp fun xs H Qv ⟨r,S,ds,Q,rel,ps,q,ret⟩=>by
 unfold zi3 at q
 split at q
 ·rename_i ys
  obtain⟨v,vs,rfl,p1,p2⟩:=ps.uncons
  have z:=p2.unnil
  subst z
  obtain⟨a,zs,rfl,h1,h2⟩:=p1.untup
  refine⟨a,zs,rfl,.inr (SqT.of h1),fun l hl=>?_⟩
  obtain⟨rel2,x⟩:=rel.push hl h2
  exact ret _ _ _ (.ref S.length) _ x rel2 (zem rel.len) q
 ·rename_i n
  obtain⟨v,vs,rfl,p1,p2⟩:=ps.uncons
  have z:=p2.unnil
  subst z
  split at q
  ·rename_i o eo
   obtain⟨eo,eL⟩:=zbt eo
   obtain⟨a,ha,ob⟩:=rel.at eo
   cases p1 with
   | ref h1=>
    rw[h1] at ha; cases ha
    obtain⟨ys,sq,pr⟩:=ob.list eL
    refine⟨_,ys,rfl,.inl sq,fun l hl=>?_⟩
    obtain⟨rel2,x⟩:=rel.push hl pr
    exact ret _ _ _ (.ref S.length) _ x rel2 (zem rel.len) q
  ·exact q.elim
 ·exact q.elim
def zb8:List D→Option (List Bool)
 | []=>some []
 | .bl b::r=>(zb8 r).map (b::·)
 | _::_=>none
def zg6 (g:List Bool→Bool):WC:=fun ds S Q=>match ds with
 | [.ref n]=>match lAt S n with
  | some o=>match zb8 (zai o) with
   | some bs=>Q (.bl (g bs)) S
   | none=>False
  | none=>False
 | _=>False
theorem zqU {r:List Addr}{H:Hp}:∀ {ds:List D} {bs:List Bool} {vs:List V} {us:List Value},zb8 ds=some bs→Rps r H ds vs→zat vs us→us=bs.map Value.bool
 | [],bs,vs,us,e,p,q=>by
  have z:=p.unnil
  subst z
  cases q
  simp[zb8] at e
  subst e
  rfl
 | d::ds,bs,vs,us,e,p,q=>by
  obtain⟨v,vs',rfl,p1,p2⟩:=p.uncons
  cases d with
  | bl b=>
   cases p1
   cases q with
   | cons q1 q2=>
    have q1':_=Value.bool b:=q1
    subst q1'
    simp only[zb8,Option.map_eq_some_iff] at e
    obtain⟨ms,e1,rfl⟩:=e
    rw[zqU e1 p2 q2]
    rfl
  | _=>simp[zb8] at e
theorem zxw {bs:List Bool}:(List.range bs.length).all (fun i=>bs.getD i false)=bs.all id:=by
 rw[Bool.eq_iff_iff]
 rw[List.all_eq_true,List.all_eq_true]
 refine⟨fun h b hb=>?_,fun h i hi=>?_⟩
 ·obtain⟨i,hi,e⟩:=List.mem_iff_getElem.mp hb
  have hb':=h i (List.mem_range.mpr hi)
  simpa [hi,e] using hb'
 ·have hi':i < bs.length:=List.mem_range.mp hi
  have:=h bs[i] (List.getElem_mem hi')
  simpa [hi'] using this
theorem zvk {prog:Program}{w:World}{A:Around}{bs:List Bool}:TruthOf prog w A (fun i v=>(bs.map Value.bool).toArray[i]?=some v) fun i=>bs.getD i false:=fun i v s Q E hP hQ=>by
  have e:(bs.map Value.bool)[i]?=some v:=by simpa using hP
  rw[List.getElem?_map] at e
  cases q:bs[i]? with
  | none=>
   rw[q] at e
   cases e
  | some b=>
    rw[q] at e
    have z:Value.bool b=v:=by simpa using e
    subst z
    have z2:bs.getD i false=b:=by simp[List.getD_eq_getElem?_getD,q]
    have hQ':Q (bs.getD i false) s:=hQ
    rw[z2] at hQ'
    exact wpAny_truthy_bool hQ'
theorem zsY {n:Nat}{a:Addr}{o:Ob}{bs:List Bool}{pins:List (Addr×Obj)}{σ:St}{H:Hp}{s:Shared}{r:List Addr}{S:Sto}{Q:DK}{Qv:VK}{E:Value→Shared→Prop}{g:List Bool→Bool}(G:List Nat→(Nat→Bool)→Bool)
  (hG:G (List.range bs.length) (fun i=>bs.getD i false)=g bs)(hc:X.calm=true)(I:Inv X pins σ H s)(rel:Rel X.K Z r S H)(hn:r[n]?=some a)(eo:lAt S n=some o)(eb:zb8 (zai o)=some bs)(q:Q (.bl (g bs)) S)(ret:Ret X.K Z r H Q Qv):
  wpAny (model X.prog X.w) X.A.in1 (pyIter (.ref a)) (fun it s₂=>∃I fp wr n P' St tr,it=.ref I∧Walks X.prog X.w X.A.in1 I fp wr n P' St∧St 0 s₂.heap∧TruthOf X.prog X.w X.A.in1 P' tr∧
   ∀h' tk,(∀b o,b ∉ wr→s₂.heap.get? b=some o→h'.get? b=some o)→EP X pins σ Qv (.bool (G (List.range n) tr)) { s₂ with heap:=h',toks:=tk }) E s:=by
 obtain⟨eo,eL⟩:=zbt eo
 obtain⟨a',ha,ob⟩:=rel.at eo
 rw[hn] at ha; cases ha
 obtain⟨ys,sq,pr⟩:=ob.list eL
 obtain⟨its,ri,pl,hz⟩:=I.list sq
 have eits:=zqU eb pr ri
 subst eits
 refine wpAny_pyIter_list pl.isList ?_
 have hne:a≠s.heap.objs.size:=Nat.ne_of_lt (by
  obtain⟨ob,e,_⟩:=pl.isList
  exact Heap.lt_size e)
 refine⟨s.heap.objs.size,_,_,_,_,_,fun i=>bs.getD i false,rfl,Walks.list (show X.A.in1.handled=none from I.ok.hd hc) _ a hne (bs.map Value.bool).toArray,⟨⟨_,Heap.get?_push_size _ rfl,rfl,rfl⟩,pl.isList.at fun o e=>Heap.get?_push_of_some _ e⟩,zvk,fun h' tk hk=>?_⟩
 have ez:(bs.map Value.bool).toArray.size=bs.length:=by simp
 rw[ez,hG]
 refine⟨.bl (g bs),H,I.kept fun b o e=>hk b o (fun z=>?_) (Heap.get?_push_of_some _ e),rfl,ret _ _ _ _ _ Ext.refl rel (.bl _) q⟩
 have z':b=s.heap.objs.size:=by simpa using z
 exact absurd (z' ▸ Heap.lt_size e) (Nat.lt_irrefl _)
theorem zus {id:String}{g:List Bool→Bool}(rule:∀(pins:List (Addr×Obj)) (σ:St) (H:Hp) (s:Shared) (r:List Addr) (S:Sto) (Q:DK) (Qv:VK) (n:Nat) (a:Addr) (o:Ob) (bs:List Bool),Inv X pins σ H s→Rel X.K Z r S H→r[n]?=some a→lAt S n=some o→zb8 (zai o)=some bs→
   Q (.bl (g bs)) S→Ret X.K Z r H Q Qv→wpAny (model X.prog X.w) X.A (call (.builtin id) [.ref a]) (EP X pins σ Qv) X.xe s):zbd X (.builtin id) (upC X.K Z (zg6 g)):=by
 intro pins s σ H xs us Qv I rv h
 obtain⟨r,S,ds,Q,rel,ps,q,ret⟩:=h
 unfold zg6 at q
 split at q
 ·rename_i n
  obtain⟨v,vs,rfl,p1,p2⟩:=ps.uncons
  have z:=p2.unnil
  subst z
  split at q
  ·rename_i o eo
   split at q
   ·rename_i bs eb
    cases p1 with
    | ref h1=>
     obtain⟨u,rfl,ru⟩:=zdl rv
     cases ru
     exact rule pins σ H s r S Q Qv n _ o bs I rel h1 eo eb q ret
   ·exact q.elim
  ·exact q.elim
 ·exact q.elim
theorem zq3 (hc:X.calm=true):zbd X (.builtin "all") (upC X.K Z (zg6 fun bs=>bs.all id)):=
 zus fun _ _ _ _ _ _ _ _ _ _ _ _ I rel h1 eo eb q ret=>call_all_walk (zsY (g:=fun bs=>bs.all id) (fun l f=>l.all f) zxw hc I rel h1 eo eb q ret)
@[irreducible] def irr (w:WC):WC:=w
@[irreducible] def zbE (w:W2):W2:=w
theorem zfS (w:WC):irr w=w:=by unfold irr; rfl
theorem zbY (w:W2):zbE w=w:=by unfold zbE; rfl
theorem zaK {f:Value}{w:WC}(h:zbd X f (upC X.K Z w)):zbd X f (upC X.K Z (irr w)):=by rw[zfS]; exact h
theorem zaF {a b:Expr}{ta tb:TDE}(ha:PD X Z a ta)(hb:PD X Z b tb)(hs:zof b):PD X Z (.Subscript a b pos) (dOp (zbE wIx) ta tb):=by rw[zbY]; exact zas ha hb hs
theorem zax (S:Sto)(o:Ob):(S++[o])[S.length]?=some o:=by simp
theorem zcQ {S:Sto}{o u:Ob}{n:Nat}(h:S[n]?=some o):(S++[u])[n]?=some o:=by
 rw[List.getElem?_append_left (List.getElem?_eq_some_iff.mp h).1]; exact h
theorem zdI {tl te:TDE}{dl:Ev}{S S1:Sto}{Q:DK}{n:Nat}{o:Ob}(g:D→D)(htl:∀K:DK,K (.ref n) S1→tl dl S K)(h1:S1[n]?=some o)(hl:(zai o).length≤1000)
  (ht:∀x∈zai o,∀(S2:Sto) (K:DK),Pre S1 S2→K (g x) S2→te (some x::zbz caps dl) S2 K)(hq:Q (.ref S1.length) (S1++[.lst ((zai o).map g)]))(hL:zbU o=some o:=by rfl):zcj caps tl zcp te dl S Q:=by
 unfold zcj
 refine htl _ ⟨by rw[zaC h1 hL]; rfl,fun k m S2=>S2=S1++[.lst (((zai o).take k).map g)]∧m + k=(zai o).length,⟨(zai o).length,by simp,by omega⟩,?_⟩
 rintro k m S2 ⟨rfl,hm⟩
 rw[zaC (zcQ h1) hL]
 dsimp only
 split
 ·rename_i x hx
  have hk:k < (zai o).length:=(List.getElem?_eq_some_iff.mp hx).1
  unfold zdf zcp
  simp only[if_true]
  refine ht x (List.mem_of_getElem? hx) _ _ Pre.refl.push ?_
  rw[zax]
  refine⟨by simp; omega,m - 1,by omega,?_,by omega⟩
  have e:(zai o).take (k + 1)=(zai o).take k++[x]:=by rw[List.take_succ,hx]; rfl
  rw[e,List.map_append,List.set_append_right _ _ (Nat.le_refl _)]
  simp
 ·rename_i hx
  have hk:(zai o).length≤k:=List.getElem?_eq_none_iff.mp hx
  rw[List.take_of_length_le hk]
  exact hq
theorem zt0 {o:Ob}{bs:List Bool}(h:zb8 (zai o)=some bs):zbU o=some o:=by
 cases o <;> first | rfl | cases h
theorem zqd {o:Ob}{xs:List Int}(h:zci (zai o)=some xs):zbU o=some o:=by
 cases o <;> first | rfl | cases h
theorem zqX {g:List Bool→Bool}{n:Nat}{S:Sto}{o:Ob}{bs:List Bool}{Q:DK}(h:S[n]?=some o)(hb:zb8 (zai o)=some bs)(hq:Q (.bl (g bs)) S):irr (zg6 g) [.ref n] S Q:=by
 rw[zfS]
 unfold zg6
 simp only[zaC h (zt0 hb),hb]
 exact hq
theorem zdZ {le:Int→Int→Prop}{two:Int→Int→Int}{n:Nat}{S:Sto}{o:Ob}{xs:List Int}{Q:DK}(h:S[n]?=some o)(hb:zci (zai o)=some xs)(hne:xs≠[])(hq:∀m,m∈xs→(∀y∈xs,le y m)→Q (.int m) S):irr (zei le two) [.ref n] S Q:=by
 rw[zfS]
 unfold zei
 simp only[zaC h (zqd hb),hb]
 exact⟨hne,hq⟩
theorem zcO {n:Nat}{S:Sto}{o:Ob}{Q:DK}(h:lAt S n=some o)(hq:Q (.ref S.length) (S++[.lst (zai o)])):irr zi3 [.ref n] S Q:=by
 rw[zfS]
 unfold zi3
 simp only[h]
 exact hq
theorem zd5 {to te:TDE}{dl:Ev}{S S1:Sto}{Q:DK}{n:Nat}{xs:List D}{y:D}(hto:∀K:DK,K (.ref n) S1→to dl S K)(h:S1[n]?=some (.lst xs))(hte:∀K:DK,K y S1→te dl S1 K)(hl:xs.length < 1000)(hq:Q .non (S1.set n (.lst (xs++[y])))):zdQ to te dl S Q:=by
 unfold zdQ
 refine hto _ ?_
 simp only[h]
 refine hte _ ?_
 simp only[h]
 exact ifP hl hq
end
end L3
namespace L3
theorem zfn {n:Nat}{x y:Int}:Sco n (.tup [.int x,.int y]):=.tup fun d hd=>by
 have z:d=.int x∨d=.int y:=by simpa using hd
 rcases z with rfl | rfl <;> exact .int _
end L3

namespace L3
open PySem PySem.Spec PyProof.Rows L2 PySem.W Builtin Builtin.ObjectAttr Builtin.Getset_descriptor
structure Nx (K:Frag)(D:Addr):Prop where
 ga:findIn K (.ref D) "__getattribute__"=some (some (.builtin "BaseException.__getattribute__"))
 hk:findIn K (.ref D) "__getattr__"=some none
 ha:findIn K (.ref D) "__class__"=some (some (.builtin "object.__class__"))
 hn:specialIn K (.builtin "object.__class__") "__get__"=some (some (.builtin "getset_descriptor.__get__"))
 ht:takesIn K (.builtin "object.__class__")=some true
 hm:mroIn K D (.type "object")=some true
 hb:mroIn K D (.type "BaseException")=some true
section
variable {X:Cx}{Z:Zx}
end
end L3

namespace L3
open PySem PySem.Spec PyProof.Rows L2
def eqN:Nat→D→D→Option Bool
 | 0=>eqF
 | k + 1=>eqT (eqN k)
theorem zo2:∀k,zfu (eqN k)
 | 0=>zfP
 | k + 1=>zph (zo2 k)
theorem zdH:∀k,zdF k (eqN k)
 | 0=>zmT 0
 | k + 1=>zqP (zdH k) (zo2 k)
def zdL (k:Nat)(S:Sto):D→D→Option Bool
 | .ref n,.ref m=>match lAt S n,lAt S m with
  | some o,some o'=>eqL (eqN k) (zai o) (zai o')
  | _,_=>none
 | x,y=>eqN (k + 1) x y
def zeq (k:Nat):W2:=fun x y S Q=>match zdL k S x y with
 | some b=>Q (.bl b) S
 | none=>False
def zen (k:Nat):W2:=fun x y S Q=>match zdL k S x y with
 | some b=>Q (.bl (!b)) S
 | none=>False
section
variable {X:Cx}{Z:Zx}
theorem zsw {k n m:Nat}{a a':Addr}{o o':Ob}{b:Bool}{pins:List (Addr×Obj)}{σ:St}{H:Hp}{s:Shared}{r:List Addr}{S:Sto}(I:Inv X pins σ H s)(rel:Rel X.K Z r S H)(hn:r[n]?=some a)(hm:r[m]?=some a')(eo:lAt S n=some o)(eo':lAt S m=some o')
  (e:eqL (eqN k) (zai o) (zai o')=some b)(hu:X.A.units + 1 + k < cLine):SeqAt.RcAt X.A s (.ref a) (.ref a') b:=by
 obtain⟨eo,eL⟩:=zbt eo
 obtain⟨eo',eL'⟩:=zbt eo'
 obtain⟨z,hz,ob⟩:=rel.at eo
 rw[hn] at hz; cases hz
 obtain⟨z,hz,ob'⟩:=rel.at eo'
 rw[hm] at hz; cases hz
 obtain⟨xs,sq,pr⟩:=ob.list eL
 obtain⟨ys,sq',pr'⟩:=ob'.list eL'
 obtain⟨is,ri,pl,_⟩:=I.list sq
 obtain⟨js,rj,pl',_⟩:=I.list sq'
 obtain⟨g1,g2⟩:=zeD (A:=X.A.in1) (zdH k) I (by show X.A.units + 1 + k < _; omega) pr pr' ri rj e
 by_cases hs:is.toArray.size=js.toArray.size
 ·have q:=SeqAt.RcAt.lists (A:=X.A) pl.isList pl'.isList hs (by omega) g1
  have e2:(List.range is.toArray.size).all (zcm (eqN k) (zai o) (zai o'))=b:=by
   rw[← g2,← hs,Nat.min_self]; simp
  rw[e2] at q
  exact q
 ·have q:=SeqAt.RcAt.lists_lengths (A:=X.A) pl.isList pl'.isList (by simpa using hs) (by omega)
  have e2:b=false:=by
   rw[← g2,show (is.toArray.size == js.toArray.size)=false by simpa using hs,Bool.and_false]
  rw[e2]
  exact q
theorem zvE (k:Nat){j:Nat}(hr:zaJ j X.A)(hu:X.A.units + 1 + k < cLine):OpR X (compareOp .Eq) (upO X.K Z (zeq k)):=by
 intro pins s σ H x y v u Qv I rx ry h
 obtain⟨r,S,dx,dy,Q,rel,px,py,q,ret⟩:=h
 have zaN:∀ {dx dy:D} {x y:V},Rp r H dx x→Rp r H dy y→zav x v→zav y u→zdL k S dx dy=eqN (k + 1) dx dy→zeq k dx dy S Q→wpAny (model X.prog X.w) X.A (compareOp .Eq v u) (EP X pins σ Qv) X.xe s:=fun px py rx ry e q=>by
  refine zqT (Z:=Z) (zdH k) hu pins s σ H _ _ v u Qv I rx ry ⟨r,S,_,_,Q,rel,px,py,?_,ret⟩
  unfold zeq at q
  rw[e] at q
  exact q
 cases px with
 | @ref n a hn=>
  cases py with
  | @ref m a' hm=>
   cases rx
   cases ry
   unfold zeq zdL at q
   dsimp only at q
   split at q
   ·rename_i b e
    split at e
    ·rename_i o o' eo eo'
     exact zsw I rel hn hm eo eo' e hu X.prog X.w X.xe _ ⟨.bl b,H,I,rfl,ret _ _ _ _ _ Ext.refl rel (.bl b) q⟩
    ·cases e
   ·exact q.elim
  | non=>exact zaN (.ref hn) .non rx ry rfl q
  | bl i=>exact zaN (.ref hn) (.bl i) rx ry rfl q
  | int i=>exact zaN (.ref hn) (.int i) rx ry rfl q
  | str i=>exact zaN (.ref hn) (.str i) rx ry rfl q
  | tup a b c=>exact zaN (.ref hn) (.tup a b c) rx ry rfl q
  | exc a=>exact zaN (.ref hn) (.exc a) rx ry rfl q
 | non=>exact zaN .non py rx ry rfl q
 | bl i=>exact zaN (.bl i) py rx ry rfl q
 | int i=>exact zaN (.int i) py rx ry rfl q
 | str i=>exact zaN (.str i) py rx ry rfl q
 | tup a b c=>exact zaN (.tup a b c) py rx ry rfl q
 | exc a=>exact zaN (.exc a) py rx ry rfl q
def zbW (f:D→D→Option Bool):List D→D→Option Bool
 | [],_=>some false
 | y::ys,x=>match f y x,zbW f ys x with
  | some b,some c=>some (b || c)
  | _,_=>none
def wIn (k:Nat)(neg:Bool):W2:=fun x y S Q=>match y with
 | .ref n=>match lAt S n with
  | some o=>match zbW (eqN k) (zai o) x with
   | some b=>Q (.bl (if neg then !b else b)) S
   | none=>False
  | none=>False
 | _=>False
theorem zoU {v v':V}{u:Value}(h:zav v u)(h':zav v' u):v=v':=by
 cases v <;> cases v' <;> simp[L2.zav] at h h' <;> first
  | rfl
  | (subst h; simp at h'; subst h'; rfl)
  | (obtain⟨t,rfl⟩:=h; simp at h'; subst h'; rfl)
  | (obtain⟨t,rfl⟩:=h; simp at h')
  | (subst h; simp at h')
  | skip
theorem ziB {r:List Addr}{H:Hp}{d d' x:D}{v:V}{b b':Bool}(p:Rp r H d v)(p':Rp r H d' v)(e:eqF d x=some b)(e':eqF d' x=some b'):b=b':=by
 have z:d=d':=by
  cases p <;> cases p' <;> first
   | rfl
   | (cases x <;> simp[eqF] at e)
   | (cases x <;> simp[eqF] at e')
 subst z
 rw[e] at e'
 exact Option.some.inj e'
theorem zpG {f:D→D→Option Bool}{r:List Addr}{H:Hp}(hf:∀(d d' x:D) (v:V) (b b':Bool),Rp r H d v→Rp r H d' v→f d x=some b→f d' x=some b'→b=b'):
  ∀ {ds ds' zs:List D} {vs:List V} {b b':Bool},Rps r H ds vs→Rps r H ds' vs→eqL f ds zs=some b→eqL f ds' zs=some b'→b=b'
 | [],ds',zs,vs,b,b',p,p',e,e'=>by
  have z:=p.unnil
  subst z
  cases ds' with
  | nil=>rw[e] at e'; exact Option.some.inj e'
  | cons y ys=>exact absurd p'.1 (by simp)
 | d::ds,ds',zs,vs,b,b',p,p',e,e'=>by
  obtain⟨v,vs',rfl,p1,p2⟩:=p.uncons
  cases ds' with
  | nil=>exact absurd p'.1 (by simp)
  | cons d' ds'=>
   obtain⟨q1,q2⟩:=p'.tail
   cases zs with
   | nil=>
    simp only[eqL,Option.some.injEq] at e e'
    exact e.symm.trans e'
   | cons z zs=>
    unfold eqL at e e'
    split at e
    ·rename_i b1 c1 a1 a2
     split at e'
     ·rename_i b2 c2 a3 a4
      have h1:=hf d d' z v b1 b2 p1 q1 a1 a3
      have h2:=zpG hf p2 q2 a2 a4
      subst h1 h2
      simp only[Option.some.injEq] at e e'
      exact e.symm.trans e'
     ·cases e'
    ·cases e
theorem zoa:∀(k:Nat) {r:List Addr} {H:Hp} (d d' x:D) (v:V) (b b':Bool),Rp r H d v→Rp r H d' v→eqN k d x=some b→eqN k d' x=some b'→b=b'
 | 0,r,H,d,d',x,v,b,b',p,p',e,e'=>ziB p p' e e'
 | k + 1,r,H,d,d',x,v,b,b',p,p',e,e'=>by
  cases p with
  | tup h1 l1 f1=>
   cases p' with
   | tup h2 l2 f2=>
    rw[h1] at h2; cases h2
    cases x with
    | tup zs=>exact zpG (fun d d' x v b b'=>zoa k d d' x v b b') ⟨l1,f1⟩ ⟨l2,f2⟩ e e'
    | _=>simp[eqN,eqT,eqF] at e
   | ref h=>cases x <;> simp[eqN,eqT,eqF] at e'
   | exc h=>cases x <;> simp[eqN,eqT,eqF] at e'
  | non=>exact ziB (x:=x) .non p' (by cases x <;> exact e) (by cases p' <;> cases x <;> exact e')
  | bl i=>exact ziB (x:=x) (.bl i) p' (by cases x <;> exact e) (by cases p' <;> cases x <;> exact e')
  | int i=>exact ziB (x:=x) (.int i) p' (by cases x <;> exact e) (by cases p' <;> cases x <;> exact e')
  | str i=>exact ziB (x:=x) (.str i) p' (by cases x <;> exact e) (by cases p' <;> cases x <;> exact e')
  | ref h=>cases x <;> simp[eqN,eqT,eqF] at e
  | exc h=>cases x <;> simp[eqN,eqT,eqF] at e
theorem zpB {f:D→D→Option Bool}{x:D}:∀ {ys:List D} {b:Bool},zbW f ys x=some b→(∀y∈ys,∃c,f y x=some c)∧(b=true↔∃y∈ys,f y x=some true)
 | [],b,e=>by
  simp only[zbW,Option.some.injEq] at e
  subst e
  simp
 | y::ys,b,e=>by
  unfold zbW at e
  split at e
  ·rename_i b1 c1 e1 e2
   obtain⟨h1,h2⟩:=zpB e2
   simp only[Option.some.injEq] at e
   subst e
   refine⟨fun z hz=>?_,?_⟩
   ·rcases List.mem_cons.mp hz with rfl | hz'
    ·exact⟨b1,e1⟩
    ·exact h1 z hz'
   ·rw[Bool.or_eq_true,h2]
    refine⟨fun q=>?_,fun ⟨z,hz,q⟩=>?_⟩
    ·rcases q with q | ⟨z,hz,q⟩
     ·exact⟨y,List.mem_cons_self,by rw[e1,q]⟩
     ·exact⟨z,List.mem_cons_of_mem _ hz,q⟩
    ·rcases List.mem_cons.mp hz with rfl | hz'
     ·left
      rw[e1] at q
      exact Option.some.inj q
     ·exact .inr ⟨z,hz',q⟩
  ·cases e
theorem zrq {k:Nat}{pins:List (Addr×Obj)}{σ:St}{H:Hp}{s:Shared}{r:List Addr}{A:Around}{ds:List D}{vs:List V}{us:List Value}{dx:D}{x:V}{u:Value}{b:Bool}(I:Inv X pins σ H s)(hu:A.units + k < cLine)
  (p:Rps r H ds vs)(rv:zat vs us)(px:Rp r H dx x)(rx:zav x u)(e:zbW (eqN k) ds dx=some b):∃g:Value→Bool,(∀y,y∈us.toArray→SeqAt.EqAt A s y u (g y))∧us.toArray.any g=b:=by
 obtain⟨h1,h2⟩:=zpB e
 have at_:∀y∈us,∃d v,d∈ds∧Rp r H d v∧zav v y:=fun y hy=>by
  obtain⟨j,hj,ej⟩:=List.mem_iff_getElem.mp hy
  have hv:j < vs.length:=by rw[rv.length]; exact hj
  have gv:vs[j]?=some vs[j]:=by simp[hv]
  obtain⟨w,gw,rw'⟩:=rv.get gv
  obtain⟨d,gd,pd⟩:=p.get' gv
  have ew:w=y:=by
   rw[List.getElem?_eq_getElem hj,ej] at gw
   exact(Option.some.inj gw).symm
  subst ew
  exact⟨d,_,List.mem_of_getElem? gd,pd,rw'⟩
 classical
 refine⟨fun y=>decide (∃d v,d∈ds∧Rp r H d v∧zav v y∧eqN k d dx=some true),fun y hy=>?_,?_⟩
 ·obtain⟨d,v,hd,pd,rd⟩:=at_ y (by simpa using hy)
  obtain⟨c,hc⟩:=h1 d hd
  have same:decide (∃d v,d∈ds∧Rp r H d v∧zav v y∧eqN k d dx=some true)=c:=by
   cases c with
   | true=>exact decide_eq_true ⟨d,v,hd,pd,rd,hc⟩
   | false=>
    refine decide_eq_false fun ⟨d',v',_,pd',rd',hc'⟩=>?_
    have ev:=zoU rd rd'
    subst ev
    exact absurd (zoa k d d' dx v false true pd pd' hc hc') (by decide)
  show SeqAt.EqAt A s y u (decide _)
  rw[same]
  exact zdH k X pins σ H s r A d dx v x y u c I hu pd px rd rx hc
 ·rw[Bool.eq_iff_iff,h2,List.any_toArray,List.any_eq_true]
  refine⟨fun ⟨y,hy,q⟩=>?_,fun ⟨d,hd,q⟩=>?_⟩
  ·obtain⟨d,v,hd,_,_,q'⟩:=of_decide_eq_true q
   exact⟨d,hd,q'⟩
  ·obtain⟨j,hj,ej⟩:=List.mem_iff_getElem.mp hd
   have gd:ds[j]?=some d:=by simp[hj,ej]
   obtain⟨v,gv,pv⟩:=p.get gd
   obtain⟨w,gw,rw'⟩:=rv.get gv
   exact⟨w,List.mem_of_getElem? gw,decide_eq_true ⟨d,v,hd,pv,rw',q⟩⟩
theorem ztq (k:Nat)(hu:X.A.units + 1 + k < cLine):OpR X (compareOp .NotIn) (upO X.K Z (wIn k true)):=by
 intro pins s σ H x y v u Qv I rx ry h
 obtain⟨r,S,dx,dy,Q,rel,px,py,q,ret⟩:=h
 cases py with
 | @ref n a hn=>
  unfold wIn at q
  dsimp only at q
  split at q
  ·rename_i o eo
   split at q
   ·rename_i b eb
    cases ry
    obtain⟨eo,eL⟩:=zbt eo
    obtain⟨a',ha,ob⟩:=rel.at eo
    rw[hn] at ha; cases ha
    obtain⟨ys,sq,pr⟩:=ob.list eL
    obtain⟨us,ru,pl,_⟩:=I.list sq
    obtain⟨g,g1,g2⟩:=zrq (A:=X.A.in1) I (by show X.A.units + 1 + k < _; omega) pr ru px rx eb
    refine SeqAt.notIn_listAt g pl.isList g1 ?_
    rw[g2]
    exact⟨.bl (!b),H,I,rfl,ret _ _ _ _ _ Ext.refl rel (.bl (!b)) q⟩
   ·exact q.elim
  ·exact q.elim
 | _=>exact(show False from q).elim
end
end L3

namespace L3
open PySem PySem.Spec PyProof.Rows L2
section
variable {X:Cx}{Z:Zx}{pos:Pos}
def zf1:List Nat→List D→Ev→Ev
 | i::is,d::ds,dl=>zf1 is ds (dl.set i (some d))
 | _,_,dl=>dl
def zjd:List Nat→List V→St→St
 | i::is,v::vs,σ=>zjd is vs (σ.set i (some v))
 | _,_,σ=>σ
theorem zqC {r:List Addr}{H:Hp}:∀ {is:List Nat} {ds:List D} {vs:List V} {dl:Ev} {σ:St},Rs r H dl σ→Rps r H ds vs→Rs r H (zf1 is ds dl) (zjd is vs σ)
 | [],ds,vs,dl,σ,h,p=>by cases ds <;> cases vs <;> exact h
 | i::is,[],vs,dl,σ,h,p=>by
  have z:=p.unnil
  subst z
  exact h
 | i::is,d::ds,vs,dl,σ,h,p=>by
  obtain⟨v,vs',rfl,p1,p2⟩:=p.uncons
  show Rs r H (zf1 is ds (dl.set i (some d))) (zjd is vs' (σ.set i (some v)))
  exact zqC (Rs.set i h p1) p2
inductive Nms (X:Cx):List Expr→List Nat→Prop
 | nil:Nms X [] []
 | cons {x:Str} {p:Pos} {i:Nat} {es:List Expr} {is:List Nat}:X.N[i]?=some x→Loc X.env.scope x→(X.fn x=true∨X.env.scope.names.lookup x=some .local)→Nms X es is→Nms X (.Name x p::es) (i::is)
def zex (is:List Nat):TGs:=fun vs σ H Q=>vs.length=is.length∧Q (zjd is vs σ) H
theorem zgt (hN:X.N.Nodup):∀ {es:List Expr} {is:List Nat},Nms X es is→PGs X es (zex is)
 | _,_,.nil=>fun pins s σ H vs us Q I r h=>by
  obtain⟨e,h⟩:=h
  have z:vs=[]:=by simpa using e
  subst z
  exact zwX pins s σ H [] us Q I r ⟨rfl,h⟩
 | _,_,.cons (x:=x) (p:=p) (es:=es) (is:=is) h1 h2 h3 t=>fun pins s σ H vs us Q I r h=>by
  obtain⟨e,h⟩:=h
  cases vs with
  | nil=>simp at e
  | cons v vs=>exact zsu (zl0 hN h1 h2 h3) (zgt hN t) rfl pins s σ H (v::vs) us Q I r ⟨v,vs,rfl,by simpa using e,h⟩
end
end L3

namespace L3
open PySem L2
theorem znS (S:Sto)(o u:Ob):(S++[o]).set S.length u=S++[u]:=by simp
end L3

namespace L3
open PySem PySem.Spec PyProof.Rows L2
section
variable {X:Cx}{Z:Zx}
end
def zoN:Sd:=fun _ _ _ _=>False
def Df.never {P:Program}{w:World}{K:PySem.W.Frag}{mg:Str→Option Value}{base:Heap}{x:Str}{st:Stmt}{ps:List Str}(k:Nat)(d:Df K mg x st ps):Fk P w K mg base k x ps zoN:=
 ⟨d.f,d.fd,⟨fun _ _ _ _ ⟨_,_,_,_,_,_,_,z,_⟩=>z.elim,fun _ _ _ _ _ _ _ _ _ _ _ _ _ ⟨_,_,_,_,_,_,_,z,_⟩=>z.elim⟩,d.m,d.F.kp,d.b⟩
end L3

namespace L3
open PySem PySem.Spec PyProof.Rows L2
section
variable {X:Cx}{Z:Zx}{pos:Pos}
end
section
variable {X:Cx}{Z:Zx}{elt iter:Expr}{x:Str}{px pos:Pos}{ifs:List Expr}{sc ar:Scope}{N:List Str}{caps:List Nat}
theorem zmt {ta:TDA}{te:TDE}{dl:Ev}{S S1:Sto}{Q:DK}{j:Int}(g:Nat→D)(hta:∀K:List D→Sto→Prop,K [.int j] S1→ta dl S K)(hj:0≤j∧j≤1000)
  (ht:∀k:Nat,k < j.toNat→∀(S2:Sto) (K:DK),Pre S1 S2→K (g k) S2→te (some (.int k)::zbz caps dl) S2 K)(hq:Q (.ref S1.length) (S1++[.lst ((List.range j.toNat).map g)])):zdj caps ta zcp te dl S Q:=by
 unfold zdj
 refine hta _ ⟨⟨by omega,by omega⟩,fun k S2=>S2=S1++[.lst ((List.range k).map g)]∧k≤j.toNat,⟨by simp,by omega⟩,?_⟩
 rintro k S2 ⟨rfl,hk⟩
 split
 ·rename_i hk'
  unfold zdf zcp
  simp only[if_true]
  refine ht k hk' _ _ Pre.refl.push ?_
  rw[zax]
  refine⟨by simp; omega,?_,by omega⟩
  rw[List.range_succ,List.map_append,List.set_append_right _ _ (Nat.le_refl _)]
  simp
 ·have e:k=j.toNat:=by omega
  subst e
  exact hq
end

section
variable {X:Cx}{Z:Zx}{pos:Pos}
def zaN (zs:List Str):Str:=⟨(zs.flatMap fun z=>z.cps.toList).toArray⟩
abbrev TDO:=Ev→Sto→(Option Int→Sto→Prop)→Prop
def upP (K:PySem.W.Frag)(Z:Zx)(t:TDO):TO:=fun σ H Q=>∃(r:List Addr) (dl:Ev) (S:Sto) (Q':Option Int→Sto→Prop),Rs r H dl σ∧Rel K Z r S H∧t dl S Q'∧∀o H' r' S',Ext r r' H H'→Rel K Z r' S' H'→Q' o S'→Q o H'
def PDO (X:Cx)(Z:Zx)(e:Option Expr)(t:TDO):Prop:=PO X e (upP X.K Z t)
def zny:TDO:=fun _ S Q=>Q none S
def znQ (t:TDE):TDO:=fun dl S Q=>t dl S fun d S1=>match d with
 | .int i=>Q (some i) S1
 | _=>False
theorem zqr {e:Option Expr}{t t':TO}(h:PO X e t)(g:∀σ H Q,t' σ H Q→t σ H Q):PO X e t':=fun pins s σ H Q I q=>h pins s σ H Q I (g σ H Q q)
theorem zhB:PDO X Z none zny:=zqr zw4 fun σ H Q ⟨r,dl,S,Q',rs,rel,h,ret⟩=>ret none H r S Ext.refl rel h
theorem zgl {e:Expr}{t:TDE}(he:PD X Z e t):PDO X Z (some e) (znQ t):=zqr (zxt he) fun σ H Q ⟨r,dl,S,Q',rs,rel,h,ret⟩=>⟨r,dl,S,_,rs,rel,h,fun v H1 r1 d S1 e1 rel1 p1 q1=>by
 cases p1 with
 | int i=>exact⟨i,rfl,ret (some i) H1 r1 S1 e1 rel1 q1⟩
 | _=>exact(show False from q1).elim⟩
end
section
variable {X:Cx}{Z:Zx}
end
section
variable {X:Cx}{Z:Zx}
end
theorem zaD {n:Nat}{S:Sto}{o:Ob}{Q:DK}{i:Int}{d:D}(ho:S[n]?=some o)(hd:atI (zai o) i=some d)(hq:Q d S)(hL:zbU o=some o:=by rfl):zbE wIx (.ref n) (.int i) S Q:=by
 rw[zbY]
 unfold wIx
 simp only[zaC ho hL,hd]
 exact hq
end L3

namespace L3
open PySem PySem.Spec PyProof.Rows L2
def zfA (f:Str)(v:D):List (Str×D)→List (Str×D)
 | []=>[(f,v)]
 | p::r=>if p.1=f then (f,v)::r else p::zfA f v r
theorem FR.lookup {r:List Addr}{H:Hp}{f:Str}:∀ {fs:List (Str×D)} {fs':List (Str×V)},FR r H fs fs'→(∀d,fs.lookup f=some d→∃v,fs'.lookup f=some v∧Rp r H d v)∧(fs.lookup f=none→fs'.lookup f=none)
 | [],fs',h=>by
  have e:fs'=[]:=by
   have:=h.1
   simpa using this.symm
  subst e
  exact⟨fun d z=>by simp at z,fun _=>rfl⟩
 | p::fs,[],h=>by
  have:=h.1
  simp at this
 | p::fs,q::fs',h=>by
  obtain⟨h1,h2⟩:=h
  simp only[List.map_cons,List.cons.injEq] at h1
  obtain⟨p1,p2⟩:=h2.tail
  obtain⟨i1,i2⟩:=FR.lookup (f:=f) (fs:=fs) (fs':=fs') ⟨h1.2,p2⟩
  obtain⟨pk,pv⟩:=p
  obtain⟨qk,qv⟩:=q
  have ek:pk=qk:=h1.1
  subst ek
  by_cases z:f=pk
  ·subst z
   simp only[List.lookup_cons_self]
   exact⟨fun d hd=>⟨qv,rfl,by cases hd; exact p1⟩,fun hd=>by cases hd⟩
  ·have zb:(f == pk)=false:=by simpa using z
   simp only[List.lookup_cons,zb]
   exact⟨i1,i2⟩
theorem FR.put {r:List Addr}{H:Hp}{f:Str}{d:D}{v:V}(q:Rp r H d v):∀ {fs:List (Str×D)} {fs':List (Str×V)},FR r H fs fs'→FR r H (zfA f d fs) (zbw f v fs')
 | [],fs',h=>by
  have e:fs'=[]:=by
   have:=h.1
   simpa using this.symm
  subst e
  exact⟨rfl,Rps.cons q Rps.nil⟩
 | p::fs,[],h=>by
  have:=h.1
  simp at this
 | p::fs,p'::fs',h=>by
  obtain⟨h1,h2⟩:=h
  simp only[List.map_cons,List.cons.injEq] at h1
  obtain⟨p1,p2⟩:=h2.tail
  have ih:=FR.put (f:=f) q (fs:=fs) (fs':=fs') ⟨h1.2,p2⟩
  obtain⟨pk,pv⟩:=p
  obtain⟨qk,qv⟩:=p'
  have ek:pk=qk:=h1.1
  subst ek
  unfold zfA zbw
  by_cases z:pk=f
  ·rw[if_pos z,if_pos z]
   exact⟨by simp[h1.2,z],Rps.cons q p2⟩
  ·rw[if_neg z,if_neg z]
   exact⟨by simp[ih.1],Rps.cons p1 ih.2⟩
section
variable {X:Cx}{Z:Zx}{pos:Pos}
def zc3 (C:Addr)(S:Sto):D→Option (Nat×List (Str×D))
 | .ref n=>match S[n]? with
  | some (.ins C' fs)=>if C'=C then some (n,fs) else none
  | _=>none
 | _=>none
theorem zoz {C:Addr}{S:Sto}{d:D}{n:Nat}{fs:List (Str×D)}(h:zc3 C S d=some (n,fs)):d=.ref n∧S[n]?=some (.ins C fs):=by
 unfold zc3 at h
 split at h
 ·split at h
  ·rename_i m _ C' fs' e
   split at h
   ·rename_i ec
    subst ec
    simp only[Option.some.injEq,Prod.mk.injEq] at h
    obtain⟨rfl,rfl⟩:=h
    exact⟨rfl,e⟩
   ·cases h
  ·cases h
 ·cases h
@[irreducible] def zmG (C:Addr)(f:Str)(to:TDE):TDE:=fun dl S Q=>to dl S fun d S1=>match zc3 C S1 d with
 | some (_,fs)=>match fs.lookup f with
  | some v=>Q v S1
  | none=>False
 | none=>False
theorem za9 {C:Addr}{f:Str}{o:Expr}{to:TDE}(c:Cls X.K C)(n:zbv X.K C f)(ho:PD X Z o to)(hb:attributeBase o f X.env (eval o X.env)=eval o X.env:=by rfl):PD X Z (.Attribute o f pos) (zmG C f to):=
 za8 (zwe ho hb) fun σ H Qv ⟨r,dl,S,Q,rs,rel,h,ret⟩=>by unfold zmG at h; exact⟨r,dl,S,_,rs,rel,h,fun v H1 r1 d S1 e1 rel1 p1 q1=>by
  split at q1
  ·rename_i m fs ei
   obtain⟨rfl,eS⟩:=zoz ei
   split at q1
   ·rename_i w ew
    obtain⟨a,ha,ob⟩:=rel1.at eS
    obtain⟨dx,fs',eH,fr⟩:=ob
    cases p1 with
    | ref hr=>
     rw[hr] at ha; cases ha
     obtain⟨u,hu,pu⟩:=fr.lookup.1 w ew
     exact⟨a,C,dx,fs',u,rfl,eH,c,n,hu,ret u H1 r1 w S1 e1 rel1 pu q1⟩
   ·exact q1.elim
  ·exact q1.elim⟩
@[irreducible] def zmk (C:Addr)(f:Str)(to te:TDE):TDS:=fun E dl S=>te dl S fun v S1=>to dl S1 fun d S2=>match zc3 C S2 d with
 | some (n,fs)=>fs.length < 1000∧E.nx dl (S2.set n (.ins C (zfA f v fs)))
 | none=>False
theorem zcX {C:Addr}{f:Str}{o e:Expr}{to te:TDE}{p2:Pos}(c:Cls X.K C)(n:zbv X.K C f)(ho:PD X Z o to)(he:PD X Z e te)
  (hs:swapsWith e (some (.Attribute o f p2)) pos.line X.env=pure false:=by rfl):PDS X Z (.Assign [.Attribute o f p2] e pos) (zmk C f to te):=
 zb7 (zto ho he hs) fun F σ H ⟨r,dl,S,E,rs,rel,h,ret⟩=>by unfold zmk at h; exact⟨r,dl,S,_,rs,rel,h,fun v H1 r1 dv S1 e1 rel1 p1 q1=>⟨r1,dl,S1,_,rs.ext e1,rel1,q1,fun w H2 r2 d S2 e2 rel2 p2' q2=>by
  split at q2
  ·rename_i m fs ei
   obtain⟨rfl,eS⟩:=zoz ei
   obtain⟨hl,q2⟩:=q2
   obtain⟨a,ha,ob⟩:=rel2.at eS
   obtain⟨dx,fs',eH,fr⟩:=id ob
   cases p2' with
   | ref hr=>
    rw[hr] at ha; cases ha
    have hlen:fs'.length=fs.length:=by
     have:=congrArg List.length fr.1
     simpa using this.symm
    obtain⟨rb,x⟩:=rel2.b.setO (o':=.ins C (zfA f dv fs)) (u:=.ins C dx (zbw f v fs')) hr eS rfl rfl fun x=>⟨dx,_,zcC,(fr.put (p1.ext e2)).ext x⟩
    exact⟨a,C,dx,fs',rfl,eH,c,n,by omega,ret.nx _ _ r2 _ _ (e1.trans (e2.trans x)) (rs.ext (e1.trans (e2.trans x))) ⟨rb,rel2.xw.ext x⟩ q2⟩
  ·exact q2.elim⟩⟩
@[irreducible] def zjA (C:Addr)(m:Str)(ex:Ev→Addr→Sto→Prop)(sd:Sd)(to:TDE)(t:TDA):TDE:=fun dl S Q=>to dl S fun d S1=>match zc3 C S1 d with
 | some (_,fs)=>fs.lookup m=none∧t dl S1 fun ds S2=>sd (d::ds) S2 Q (ex dl)
 | none=>False
theorem zre {C:Addr}{m:Str}{f:Addr}{fd:FuncData}{k:Nat}{ps:List Str}{sp:Sp}{W:St→XK}{o e:Expr}{es:List Expr}{ta:TE}{t:TA}{apos:Pos}{pl:Sem Bool}(he:PE X o ta)(c:Cls X.K C)(hm:zfw X.K C m f)
  (F:zbb X.prog X.w X.K X.mg X.base (CXE X.prog X.w) k f fd ps sp)(hr:zaJ k X.A)(hb:zbM X.K fd ps [])(hx:zc7 X W)(ha:PA X (e::es) t)(hst:starEach (e::es) X.env=(false,eval e X.env)::starEach es X.env)(hpl:(backTo pos (starEach es X.env)).any (·.1)=false)
  (ht:eval (.Call (.Attribute o m apos) (e::es) [] pos) X.env=(do
   let ov ← eval o X.env
   standAt apos.atName
   let (f,first) ← holding [ov] (getMethod ov m pl)
   callWith pos f first (backTo pos (starEach (e::es) X.env)) (backToKw pos (keywordEach [] X.env)))):
  PE X (.Call (.Attribute o m apos) (e::es) [] pos) (fun σ H Q=>ta σ H fun x H1=>∃a dx fs,x=.ref a∧H1 a=some (.ins C dx fs)∧fs.lookup m=none∧t σ H1 fun vs H2=>sp (x::vs) H2 Q (W σ)):=by
 intro pins s σ H Q I h
 refine PySem.W.methodCall_KW (pl:=pl) (thn (he pins s σ H _ I h) fun u s1 ⟨x,H1,I1,rx,a,dx,fs,ex,ea,l,q⟩=>?_) ht
 subst ex
 obtain rfl:u=Value.ref a:=rx
 refine zpA I1 ea c hm l ?_
 exact PySem.W.callWith_K (first:=[.ref a]) (h₀:=X.base) I.ok.mod.kin hm.kp (thn (ha pos pins s1 σ H1 _ I1 q) fun us s2 ⟨vs,H2,I2,r,q2⟩=>⟨I2.kIn,zng (us:=.ref a::us) (vs:=.ref a::vs) F hr hb hx I2 (.cons rfl r) q2⟩) hst hpl
theorem zqJ {C:Addr}{r:List Addr}{S:Sto}{H:Hp}{d:D}{v:V}{n:Nat}{fs:List (Str×D)}(rel:zaU X.K r S H)(p:Rp r H d v)(h:zc3 C S d=some (n,fs)):∃a dx fs',v=.ref a∧r[n]?=some a∧H a=some (.ins C dx fs')∧FR r H fs fs':=by
 obtain⟨rfl,eS⟩:=zoz h
 obtain⟨a,ha,dx,fs',eH,fr⟩:=rel.at eS
 cases p with
 | ref hr=>
  rw[hr] at ha; cases ha
  exact⟨a,dx,fs',rfl,hr,eH,fr⟩
theorem zns {C:Addr}{m:Str}{f:Addr}{fd:FuncData}{k:Nat}{ps:List Str}{sd:Sd}{o e:Expr}{es:List Expr}{to:TDE}{t:TDA}{apos:Pos}{pl:Sem Bool}{ex:Ev→Addr→Sto→Prop}{W:St→XK}(ho:PD X ⟨ex,W⟩ o to)(c:Cls X.K C)(hm:zfw X.K C m f)
  (F:zbb X.prog X.w X.K X.mg X.base (CXE X.prog X.w) k f fd ps (upF X.K sd))(hr:zaJ k X.A)(hb:zbM X.K fd ps [])(hx:zc7 X W)(ha:PDA X ⟨ex,W⟩ (e::es) t)
  (hst:starEach (e::es) X.env=(false,eval e X.env)::starEach es X.env:=by rfl)(hpl:(backTo pos (starEach es X.env)).any (·.1)=false:=by rfl)
  (ht:eval (.Call (.Attribute o m apos) (e::es) [] pos) X.env=(do
   let ov ← eval o X.env
   standAt apos.atName
   let (f,first) ← holding [ov] (getMethod ov m pl)
   callWith pos f first (backTo pos (starEach (e::es) X.env)) (backToKw pos (keywordEach [] X.env))):=by rfl):PD X ⟨ex,W⟩ (.Call (.Attribute o m apos) (e::es) [] pos) (zjA C m ex sd to t):=
 za8 (zre ho c hm F hr hb hx ha hst hpl ht) fun σ H Qv ⟨r,dl,S,Q,rs,rel,h,ret⟩=>by unfold zjA at h; exact⟨r,dl,S,_,rs,rel,h,fun v H1 r1 d S1 e1 rel1 p1 q1=>by
  split at q1
  ·rename_i n fs ei
   obtain⟨hl,q1⟩:=q1
   obtain⟨a,dx,fs',rfl,hr1,eH,fr⟩:=zqJ rel1.b p1 ei
   exact⟨a,dx,fs',rfl,eH,fr.lookup.2 hl,r1,dl,S1,_,rs.ext e1,rel1,q1,fun vs H2 r2 ds S2 e2 rel2 p2 q2=>zoi (Z:=⟨ex,W⟩) (rs.ext (e1.trans e2)) rel2 (Rps.cons (p1.ext e2) p2) q2 (ret.ext (e1.trans e2))⟩
  ·exact q1.elim⟩
def dMake (C:Addr)(ex:Addr→Sto→Prop)(sd:Sd)(t:TDA):TDE:=fun dl S Q=>t dl S fun ds S1=>sd (.ref S1.length::ds) (S1++[.ins C []]) (fun d S2=>d=.non∧Q (.ref S1.length) S2) ex
theorem ztd {C x dx:Addr}{r:List Addr}{S:Sto}{H:Hp}(rel:Rel X.K Z r S H)(h1:H x=none)(h2:H dx=none)(h3:dx≠x):
  Rel X.K Z (r++[x]) (S++[.ins C []]) (upd (upd H dx (.own x)) x (.ins C dx []))∧Ext r (r++[x]) H (upd (upd H dx (.own x)) x (.ins C dx [])):=by
 obtain⟨rb,e⟩:=rel.b.pushO (o:=.ins C []) (H':=upd (upd H dx (.own x)) x (.ins C dx [])) h1 (fun b u q=>by rw[za2 (zdv q h1),za2 (zdv q h2)]; exact q) fun _=>⟨dx,[],zcC,FR.nil⟩
 exact⟨⟨rb,rel.xw.ext e⟩,e⟩
theorem zrn {C x:Addr}{r r':List Addr}{n:Nat}{H H':Hp}{Z:Zx}{K:PySem.W.Frag}{Q:DK}{Qv:VK}(ret:Ret K Z r H Q Qv)(e:Ext r r' H H')(hx:r'[n]?=some x):
  Ret K Z r' H' (fun d S2=>d=.non∧Q (.ref n) S2) (fun v H2=>v=.non∧Qv (.ref x) H2):=fun v H2 r2 d S2 e2 rel2 p2 q2=>by
 obtain⟨rfl,q2⟩:=q2
 cases p2
 exact⟨rfl,ret _ H2 r2 (.ref n) S2 (e.trans e2) rel2 (.ref (e2.adr _ _ hx)) q2⟩
theorem zey {C f:Addr}{fd:FuncData}{k:Nat}{ps:List Str}{sd:Sd}{ex:Addr→Sto→Prop}{W:XK}{x:Str}{p:Pos}{e:Expr}{es:List Expr}{t:TDA}(M:Mk X.K C f)
  (F:zbb X.prog X.w X.K X.mg X.base (CXE X.prog X.w) k f fd ps (upF X.K sd))(hr:zaJ (k + 1) X.A)(hg:Gl X x)(hm:X.mg x=some (.ref C))(hb:zbM X.K fd ps [])(hx:ziZ (CXE X.prog X.w) X W)(ha:PDA X (Zc ex W) (e::es) t)
  (hdb:(x == ("__debug__":Str))=false:=by decide)(he:starEach (e::es) X.env=(false,eval e X.env)::starEach es X.env:=by rfl)(hpl:(backTo pos (starEach es X.env)).any (·.1)=false:=by rfl):
  PD X (Zc ex W) (.Call (.Name x p) (e::es) [] pos) (dMake C ex sd t):=
 za8 (zxS M F hr hg hm hb .nil hx ha hdb he hpl) fun σ H Qv ⟨r,dl,S,Q,rs,rel,h,ret⟩=>⟨r,dl,S,_,rs,rel,h,fun vs H1 r1 ds S1 e1 rel1 p1 q1=>fun x dx n1 n2 n3=>by
  obtain⟨rel2,e2⟩:=ztd (C:=C) rel1 n1 n2 n3
  show upF X.K sd (.ref x::(vs++[])) _ _ W
  rw[List.append_nil]
  exact⟨ex,_,_,.ref S1.length::ds,_,rel2,Rps.cons (zem rel1.len) (p1.ext e2),q1,zrn (C:=C) ret (e1.trans e2) (zh8 rel1.len)⟩⟩
end
end L3

namespace L3
open PySem PySem.Spec PyProof.Rows L2
section
variable {κ:Type} [DecidableEq κ]
def zea (kvs:List (κ×D))(k:κ):Option D:=(kvs.find? fun kv=>decide (kv.1=k)).map (·.2)
def zp1 (kvs:List (κ×D))(k:κ)(v:D):List (κ×D):=
 if (kvs.any fun kv=>decide (kv.1=k))=true then kvs.map (fun kv=>if kv.1=k then (kv.1,v) else kv) else kvs++[(k,v)]
theorem FR.split {r:List Addr}{H:Hp}{p:κ×D}{fs:List (κ×D)}{gs:List (κ×V)}(h:FR r H (p::fs) gs):∃q gs',gs=q::gs'∧p.1=q.1∧Rp r H p.2 q.2∧FR r H fs gs':=by
 cases gs with
 | nil=>
  have:=h.1
  simp at this
 | cons q gs'=>
  obtain⟨h1,h2⟩:=h
  simp only[List.map_cons,List.cons.injEq] at h1
  obtain⟨p1,p2⟩:=h2.tail
  exact⟨q,gs',rfl,h1.1,p1,h1.2,p2⟩
theorem FR.unnil {r:List Addr}{H:Hp}{gs:List (κ×V)}(h:FR r H ([]:List (κ×D)) gs):gs=[]:=by
 have:=h.1
 simpa using this.symm
theorem FR.cons {r:List Addr}{H:Hp}{k:κ}{d:D}{v:V}{fs:List (κ×D)}{gs:List (κ×V)}(p:Rp r H d v)(h:FR r H fs gs):FR r H ((k,d)::fs) ((k,v)::gs):=⟨by simp[h.1],Rps.cons p h.2⟩
theorem FR.val {r:List Addr}{H:Hp}{k:κ}:∀ {fs:List (κ×D)} {gs:List (κ×V)},FR r H fs gs→(∀d,zea fs k=some d→∃v,zb5 gs k=some v∧Rp r H d v)∧(zea fs k=none→zb5 gs k=none)
 | [],gs,h=>by
  have z:=h.unnil
  subst z
  exact⟨(fun d e=>by cases e),fun _=>rfl⟩
 | p::fs,gs,h=>by
  obtain⟨q,gs',rfl,e,pr,t⟩:=h.split
  obtain⟨i1,i2⟩:=FR.val (k:=k) t
  by_cases z:p.1=k
  ·have z':q.1=k:=e.symm.trans z
   rw[zjP z']
   have zd:zea (p::fs) k=some p.2:=by simp[zea,List.find?_cons,z]
   rw[zd]
   exact⟨fun d hd=>⟨q.2,rfl,by cases hd; exact pr⟩,fun hd=>by cases hd⟩
  ·have z':¬ q.1=k:=fun y=>z (e.trans y)
   rw[zmp z']
   have zd:zea (p::fs) k=zea fs k:=by simp[zea,List.find?_cons,z]
   rw[zd]
   exact⟨i1,i2⟩
theorem FR.putK {r:List Addr}{H:Hp}{k:κ}{d:D}{v:V}{fs:List (κ×D)}{gs:List (κ×V)}(p:Rp r H d v)(h:FR r H fs gs):FR r H (zp1 fs k d) (putK gs k v):=by
 have any:∀ {fs:List (κ×D)} {gs:List (κ×V)},FR r H fs gs→(fs.any fun kv=>decide (kv.1=k))=(gs.any fun kv=>decide (kv.1=k)):=by
  intro fs
  induction fs with
  | nil=>intro gs h; have z:=h.unnil; subst z; rfl
  | cons q fs ih=>
   intro gs h
   obtain⟨q',gs',rfl,e,_,t⟩:=h.split
   rw[List.any_cons,List.any_cons,ih t,e]
 have mp:∀ {fs:List (κ×D)} {gs:List (κ×V)},FR r H fs gs→FR r H (fs.map fun kv=>if kv.1=k then (kv.1,d) else kv) (gs.map fun kv=>if kv.1=k then (kv.1,v) else kv):=by
  intro fs
  induction fs with
  | nil=>intro gs h; have z:=h.unnil; subst z; exact FR.nil
  | cons q fs ih=>
   intro gs h
   obtain⟨q',gs',rfl,e,pr,t⟩:=h.split
   rw[List.map_cons,List.map_cons]
   obtain⟨qk,qd⟩:=q
   obtain⟨qk',qv⟩:=q'
   have e':qk=qk':=e
   subst e'
   by_cases z:qk=k
   ·rw[if_pos z,if_pos z]; exact FR.cons p (ih t)
   ·rw[if_neg z,if_neg z]; exact FR.cons pr (ih t)
 have ap:∀ {fs:List (κ×D)} {gs:List (κ×V)},FR r H fs gs→FR r H (fs++[(k,d)]) (gs++[(k,v)]):=by
  intro fs
  induction fs with
  | nil=>intro gs h; have z:=h.unnil; subst z; exact FR.cons p FR.nil
  | cons q fs ih=>
   intro gs h
   obtain⟨q',gs',rfl,e,pr,t⟩:=h.split
   obtain⟨qk,qd⟩:=q
   obtain⟨qk',qv⟩:=q'
   have e':qk=qk':=e
   subst e'
   exact FR.cons pr (ih t)
 unfold zp1 L2.putK
 rw[any h]
 split
 ·exact mp h
 ·exact ap h
end
section
variable {X:Cx}{Z:Zx}{pos:Pos}
end
end L3

namespace L3
open PySem PySem.Spec PyProof.Rows L2
section
variable {X:Cx}{Z:Zx}{pos:Pos}
def zbS (xs:List D)(lo hi:Option Int):List D:=(xs.drop (HT.sIx xs.length 0 lo)).take (HT.sIx xs.length xs.length hi - HT.sIx xs.length 0 lo)
theorem Rps.drop {r:List Addr}{H:Hp}{ds:List D}{vs:List V}(h:Rps r H ds vs)(k:Nat):Rps r H (ds.drop k) (vs.drop k):=
 ⟨by simp[h.1],fun i d v h1 h2=>h.2 (k + i) d v (by simpa using h1) (by simpa using h2)⟩
theorem Rps.take {r:List Addr}{H:Hp}{ds:List D}{vs:List V}(h:Rps r H ds vs)(k:Nat):Rps r H (ds.take k) (vs.take k):=by
 refine⟨by simp[h.1],fun i d v h1 h2=>?_⟩
 rw[List.getElem?_take] at h1 h2
 split at h1
 ·rw[if_pos (by assumption)] at h2
  exact h.2 i d v h1 h2
 ·cases h1
theorem Rps.cut {r:List Addr}{H:Hp}{ds:List D}{vs:List V}(h:Rps r H ds vs)(lo hi:Option Int):Rps r H (zbS ds lo hi) (zfE vs lo hi):=by
 unfold zbS zfE
 rw[h.1]
 exact(h.drop _).take _
@[irreducible] def zfi (te:TDE)(tl th:TDO):TDE:=fun dl S Q=>te dl S fun d S1=>tl dl S1 fun l S2=>th dl S2 fun u S3=>match d with
 | .ref n=>match lAt S3 n with
  | some o=>Q (.ref S3.length) (S3++[.lst (zbS (zai o) l u)])
  | none=>False
 | _=>False
theorem zgb {e:Expr}{te:TDE}{lo hi:Option Expr}{tl th:TDO}{p2:Pos}(he:PD X Z e te)(hl:PDO X Z lo tl)(hu:PDO X Z hi th):PD X Z (.Subscript e (.Slice lo hi none p2) pos) (zfi te tl th):=
 za8 (zws zx6 he hl hu) fun σ H Qv ⟨r,dl,S,Q,rs,rel,h,ret⟩=>by
  unfold zfi at h
  refine⟨r,dl,S,_,rs,rel,h,fun v H1 r1 d S1 e1 rel1 p1 q1=>⟨r1,dl,S1,_,rs.ext e1,rel1,q1,fun l H2 r2 S2 e2 rel2 q2=>⟨r2,dl,S2,_,rs.ext (e1.trans e2),rel2,q2,fun u H3 r3 S3 e3 rel3 q3=>?_⟩⟩⟩
  cases p1 with
  | @ref n a hn=>
   dsimp only at q3
   split at q3
   ·rename_i o eo
    obtain⟨eo,eL⟩:=zbt eo
    obtain⟨a',ha,ob⟩:=rel3.at eo
    rw[e3.adr _ _ (e2.adr _ _ hn)] at ha; cases ha
    obtain⟨xs,sq,pr⟩:=ob.list eL
    refine⟨a,xs,rfl,sq,fun p hp=>?_⟩
    obtain⟨rel4,x⟩:=rel3.push hp (pr.cut l u)
    exact ret _ _ _ (.ref S3.length) _ (e1.trans (e2.trans (e3.trans x))) rel4 (zem rel3.len) q3
   ·exact q3.elim
  | _=>exact(show False from q3).elim
theorem zh9 {te:TDE}{tl th:TDO}{dl:Ev}{S S3:Sto}{Q:DK}{n:Nat}{o:Ob}{lo hi:Option Int}(h:∀K:DK,K (.ref n) S3→te dl S K)(hl:∀K:Option Int→Sto→Prop,K lo S3→tl dl S3 K)(hh:∀K:Option Int→Sto→Prop,K hi S3→th dl S3 K)(ho:S3[n]?=some o)
  (hq:Q (.ref S3.length) (S3++[.lst (zbS (zai o) lo hi)]))(hL:zbU o=some o:=by rfl):zfi te tl th dl S Q:=by
 unfold zfi
 refine h _ (hl _ (hh _ ?_))
 simp only[zaC ho hL]
 exact hq
end
end L3

namespace L3
open PySem PySem.Spec PyProof.Rows L2
section
variable {X:Cx}{Z:Zx}{pos:Pos}
theorem Rps.put {r:List Addr}{H:Hp}{ds:List D}{vs:List V}{d:D}{v:V}(h:Rps r H ds vs)(p:Rp r H d v)(j:Nat):Rps r H (ds.set j d) (vs.set j v):=by
 refine⟨by simp[h.1],fun i x y h1 h2=>?_⟩
 by_cases z:j=i
 ·subst z
  have hl:j < ds.length:=by
   have:=(List.getElem?_eq_some_iff.mp h1).1
   simpa using this
  rw[List.getElem?_set_self hl] at h1
  rw[List.getElem?_set_self (by rw[← h.1]; exact hl)] at h2
  cases h1
  cases h2
  exact p
 ·rw[List.getElem?_set_ne z] at h1 h2
  exact h.2 i x y h1 h2
def zdn (f:D→D→Option Bool):List D→D→Option (Option Nat)
 | [],_=>some none
 | y::ys,x=>match f y x,zdn f ys x with
  | some true,some _=>some (some 0)
  | some false,some o=>some (o.map (· + 1))
  | _,_=>none
theorem znK {f:D→D→Option Bool}{x:D}:∀ {ys:List D} {o:Option Nat},zdn f ys x=some o→(∀y∈ys,∃c,f y x=some c)∧∀j,o=some j→(∃y,ys[j]?=some y∧f y x=some true)∧∀m y,m < j→ys[m]?=some y→f y x=some false
 | [],o,e=>by
  have h:=Option.some.inj e
  subst h
  exact⟨(fun y hy=>by cases hy),fun j z=>by cases z⟩
 | y::ys,o,e=>by
  unfold zdn at e
  split at e
  ·rename_i o1 e1 e2
   have h:=Option.some.inj e
   subst h
   obtain⟨h1,_⟩:=znK e2
   refine⟨fun z hz=>?_,fun j hj=>?_⟩
   ·rcases List.mem_cons.mp hz with rfl | hz
    ·exact⟨true,e1⟩
    ·exact h1 z hz
   ·cases hj
    exact⟨⟨y,rfl,e1⟩,fun m z hm=>by omega⟩
  ·rename_i o1 e1 e2
   have h:=Option.some.inj e
   subst h
   obtain⟨h1,h2⟩:=znK e2
   refine⟨fun z hz=>?_,fun j hj=>?_⟩
   ·rcases List.mem_cons.mp hz with rfl | hz
    ·exact⟨false,e1⟩
    ·exact h1 z hz
   ·obtain⟨k,rfl,rfl⟩:=Option.map_eq_some_iff.mp hj
    obtain⟨⟨z,hz1,hz2⟩,h3⟩:=h2 k rfl
    refine⟨⟨z,by simpa using hz1,hz2⟩,fun m w hm hw=>?_⟩
    cases m with
    | zero=>
     have:w=y:=by simpa using hw.symm
     rw[this]; exact e1
    | succ m=>exact h3 m w (by omega) (by simpa using hw)
  ·cases e
theorem zxj {k:Nat}{pins:List (Addr×Obj)}{σ:St}{H:Hp}{s:Shared}{r:List Addr}{A:Around}{ds:List D}{vs:List V}{us:List Value}{dx:D}{x:V}{u:Value}{j:Nat}(I:Inv X pins σ H s)(hu:A.units + k < cLine)
  (p:Rps r H ds vs)(rv:zat vs us)(px:Rp r H dx x)(rx:zav x u)(e:zdn (eqN k) ds dx=some (some j)):
  ∃g:Value→Bool,(∀y,y∈us.toArray→SeqAt.EqAt A s y u (g y))∧∃hj:j < us.toArray.size,g us.toArray[j]=true∧∀m (hm:m < us.toArray.size),m < j→g us.toArray[m]=false:=by
 obtain⟨h1,h2⟩:=znK e
 obtain⟨⟨yj,hyj,htj⟩,hno⟩:=h2 j rfl
 classical
 have at_:∀(m:Nat) (hm:m < us.length),∃d v,ds[m]?=some d∧Rp r H d v∧zav v us[m]:=fun m hm=>by
  have hv:m < vs.length:=by rw[rv.length]; exact hm
  have gv:vs[m]?=some vs[m]:=by simp[hv]
  obtain⟨w,gw,rw'⟩:=rv.get gv
  obtain⟨d,gd,pd⟩:=p.get' gv
  have ew:w=us[m]:=by
   rw[List.getElem?_eq_getElem hm] at gw
   exact(Option.some.inj gw).symm
  subst ew
  exact⟨d,_,gd,pd,rw'⟩
 have val:∀(m:Nat) (hm:m < us.length) (d:D) (c:Bool),ds[m]?=some d→eqN k d dx=some c→decide (∃d v,d∈ds∧Rp r H d v∧zav v us[m]∧eqN k d dx=some true)=c:=fun m hm d c hd hc=>by
  obtain⟨d',v',gd,pd,rd⟩:=at_ m hm
  rw[hd] at gd; cases gd
  cases c with
  | true=>exact decide_eq_true ⟨d,v',List.mem_of_getElem? hd,pd,rd,hc⟩
  | false=>
   refine decide_eq_false fun ⟨d2,v2,_,pd2,rd2,hc2⟩=>?_
   have ev:=zoU rd rd2
   subst ev
   exact absurd (zoa k d d2 dx v' false true pd pd2 hc hc2) (by decide)
 refine⟨fun y=>decide (∃d v,d∈ds∧Rp r H d v∧zav v y∧eqN k d dx=some true),fun y hy=>?_,?_⟩
 ·have hy':y∈us:=by simpa using hy
  obtain⟨m,hm,rfl⟩:=List.mem_iff_getElem.mp hy'
  obtain⟨d,v,gd,pd,rd⟩:=at_ m hm
  obtain⟨c,hc⟩:=h1 d (List.mem_of_getElem? gd)
  show SeqAt.EqAt A s us[m] u (decide _)
  rw[val m hm d c gd hc]
  exact zdH k X pins σ H s r A d dx v x _ u c I hu pd px rd rx hc
 ·have hjl:j < us.length:=by
   have:=(List.getElem?_eq_some_iff.mp hyj).1
   rw[p.1,rv.length] at this
   exact this
  refine⟨by simpa using hjl,?_,fun m hm hmj=>?_⟩
  ·have z:=val j hjl yj true hyj htj
   simpa using z
  ·have hm':m < us.length:=by simpa using hm
   obtain⟨d,v,gd,pd,rd⟩:=at_ m hm'
   have z:=val m hm' d false gd (hno m d hmj gd)
   simpa using z
def zjt (k:Nat)(d y:D)(S:Sto)(Q:DK):Prop:=match d with
 | .ref n=>match lAt S n with
  | some o=>match zdn (eqN k) (zai o) y with
   | some (some j)=>Q (.int (j:Int)) S
   | _=>False
  | none=>False
 | _=>False
@[irreducible] def zkH (k:Nat)(to:TDE)(t:TDA):TDE:=fun dl S Q=>to dl S fun d S1=>(match d with
 | .ref n=>(lAt S1 n).isSome=true∧t dl S1 fun ds S2=>match ds with
  | [y]=>zjt k d y S2 Q
  | _=>False
 | _=>False)
theorem ztb {k j:Nat}(hr:zaJ j X.A)(hk:k≤3):MtR X "list.index" (fun x xs H Qv=>∃(r:List Addr) (S:Sto) (d y:D) (v:V) (Q:DK),Rel X.K Z r S H∧Rp r H d x∧xs=[v]∧Rp r H y v∧zjt k d y S Q∧Ret X.K Z r H Q Qv):=by
 intro pins s σ H x xs v us Qv I rx rv h
 obtain⟨r,S,d,y,v1,Q,rel,pd,rfl,py,q,ret⟩:=h
 obtain⟨u,rfl,ru⟩:=zdl rv
 unfold zjt at q
 split at q
 ·rename_i n
  split at q
  ·rename_i o eo
   obtain⟨eo,eL⟩:=zbt eo
   split at q
   ·rename_i i ei
    cases pd with
    | @ref n a hn=>
     cases rx
     obtain⟨a',ha,ob⟩:=rel.at eo
     rw[hn] at ha; cases ha
     obtain⟨ys,sq,pr⟩:=ob.list eL
     obtain⟨its,ri,pl,hz⟩:=I.list sq
     have hun:=hr.un
     obtain⟨g,g1,hj,g2,g3⟩:=zxj (A:=X.A.in1) I (by show X.A.units + 1 + k < _; omega) pr ri py ru ei
     obtain⟨ob2,m,e,c,hd,hdat⟩:=pl
     obtain⟨oc,od,odat,osl⟩:=ob2
     have c':oc=.type "list":=c
     have hdat':odat=.seq its.toArray m:=hdat
     subst c' hdat'
     refine call_meets PySem.F.slot_list_index ⟨_,e,rfl⟩ PySem.F.entry_list_index (PySem.F.args_list_index_2 _ _) (PySem.SeqAt.list_indexAt a its.toArray m od osl u g i hj (by
      have:its.toArray.size≤sizeLine:=by rw[List.size_toArray,← ri.length]; exact hz
      have h2:=zi7
      omega) g2 fun m hm h2=>g3 m hm h2) ⟨e,g1,?_⟩
     exact⟨.int (i:Int),H,I.tok _,⟨_,rfl⟩,ret _ H r (.int _) S Ext.refl rel (.int _) q⟩
   ·exact q.elim
  ·exact q.elim
 ·exact q.elim
theorem zrT {k j:Nat}{o e:Expr}{to:TDE}{t:TDA}{apos cpos:Pos}(hr:zaJ j X.A)(hk:k≤3)(ho:PD X Z o to)(ha:PDA X Z [e] t)(hbase:attributeBase o "index" X.env (eval o X.env)=eval o X.env:=by rfl)
  (hfew:((backTo cpos (starEach [e] X.env)).all (fun x=>!x.1) && (backToKw cpos (keywordEach [] X.env)).all (fun x=>x.1.isSome)
   && decide ([e].length + ([]:List Keyword).length + (if ([]:List Keyword).isEmpty then 0 else 1) < 30))=true:=by rfl)
  (hline:(apos.endLine == cpos.line)=true:=by rfl)(hs:starEach [e] X.env=(false,eval e X.env)::starEach [] X.env:=by rfl)(hplain:(backTo cpos (starEach [] X.env)).any (·.1)=false:=by rfl):
  PD X Z (.Call (.Attribute o "index" apos) [e] [] cpos) (zkH k to t):=
 za8 (zq7 (T:="list") PySem.F.plainAttrs_list PySem.F.slot_list_index PySem.F.type_list_index (ztb (Z:=Z) hr hk) ho ha hbase hfew hline hs hplain) fun σ H Qv ⟨r,dl,S,Q,rs,rel,h,ret⟩=>by
  unfold zkH at h
  refine⟨r,dl,S,_,rs,rel,h,fun v H1 r1 d S1 e1 rel1 p1 q1=>?_⟩
  cases p1 with
  | @ref n a hn=>
   obtain⟨hsome,q1⟩:=q1
   obtain⟨o1,eo⟩:=Option.isSome_iff_exists.mp hsome
   obtain⟨eo,eL⟩:=zbt eo
   obtain⟨a',ha',ob⟩:=rel1.at eo
   rw[hn] at ha'; cases ha'
   obtain⟨xs,sq,_⟩:=ob.list eL
   refine⟨.inl ⟨rfl,xs,sq⟩,r1,dl,S1,_,rs.ext e1,rel1,q1,fun vs H2 r2 ds S2 e2 rel2 p2 q2=>?_⟩
   split at q2
   ·rename_i y
    obtain⟨v2,vs',rfl,p3,p4⟩:=p2.uncons
    have z:=p4.unnil
    subst z
    exact⟨r2,S2,.ref n,y,v2,Q,rel2,.ref (e2.adr _ _ hn),rfl,p3,q2,ret.ext (e1.trans e2)⟩
   ·exact q2.elim
  | _=>exact(show False from q1).elim
end
end L3

namespace L3
open PySem PySem.Spec PyProof.Rows L2
section
variable {X:Cx}{pins:List (Addr×Obj)}{σ:St}{H:Hp}{s:Shared}{h':Heap}
theorem zpj {t':Nat}{ch:List Addr}{T:Addr}{xs:List V}{vals:Array Value}(I:Inv X pins σ H s)(k:∀b o,b ∉ ch→s.heap.get? b=some o→h'.get? b=some o)(hch:∀b∈ch,zbG X pins H b)
  (hT:s.heap.objs.size≤T)(ht:h'.IsTuple T vals)(rv:zat xs vals.toList)(hl:xs.length≤sizeLine):Inv X pins σ (upd H T (.tup xs)) { s with heap:=h',toks:=t' }:=by
 have hTn:H T=none:=I.hok.fresh hT
 have old:∀ {b:Addr} {o:Obj},s.heap.get? b=some o→b≠T:=fun {b o} e z=>absurd (Nat.lt_of_lt_of_le (Heap.lt_size e) hT) (by rw[z]; exact Nat.lt_irrefl _)
 have trk:∀b u,H b=some u→b ∉ ch:=fun b u e z=>by
  rw[(hch b z).1] at e; cases e
 have up:∀b u,H b=some u→(upd H T (.tup xs)) b=some u:=zc4 hTn
 refine I.step (g':=s.gens) (d':=s.drawn) (ch:=ch) (fun b hb=>?_) (fun b o _ _ hc e _=>k b o hc e) (fun b o _ _ hc e _=>⟨o.slots,k b o hc e⟩) (fun b o _ e n=>by rw[za2 (old e)]; exact n)
  (fun b o hc e=>⟨o,k b o hc e⟩) (fun b ys e=>up _ _ e) (fun b o u e=>up _ _ e) (fun b ps e=>⟨#[],by rw[up _ _ e]; simp⟩) (fun m hm=>?_) (fun b u e=>?_) I.bare
 ·obtain⟨_,f1,_,f3,f4,f5⟩:=hch b hb
  exact⟨f3,f1,f4,f5⟩
 ·obtain⟨o,es,ep,ho,r⟩:=hm
  exact⟨o,es,ep,k _ o (fun z=>(hch _ z).2.1 rfl) ho,r⟩
 ·by_cases hb:b=T
  ·subst hb
   rw[zcC] at e
   cases e
   exact⟨hl,vals.toList,rv,by rw[Array.toArray_toList]; exact ht⟩
  ·rw[za2 hb] at e
   refine(I.hok b u e).stay (fun c v hc q=>k c v ?_ q) (fun d z=>up _ _ z) fun d ys z=>up _ _ z
   rcases hc with z | z
   ·rw[z]; exact trk b u e
   ·exact trk c _ z
theorem zlU {t':Nat}{ch:List Addr}(I:Inv X pins σ H s)(k:∀b o,b ∉ ch→s.heap.get? b=some o→h'.get? b=some o)(hch:∀b∈ch,zbG X pins H b):Inv X pins σ H { s with heap:=h',toks:=t' }:=by
 have trk:∀b u,H b=some u→b ∉ ch:=fun b u e z=>by
  rw[(hch b z).1] at e; cases e
 refine I.step (g':=s.gens) (d':=s.drawn) (ch:=ch) (fun b hb=>?_) (fun b o _ _ hc e _=>k b o hc e) (fun b o _ _ hc e _=>⟨o.slots,k b o hc e⟩) (fun b o _ e n=>n)
  (fun b o hc e=>⟨o,k b o hc e⟩) (fun b ys e=>e) (fun b o u e=>e) (fun b ps e=>⟨#[],by rw[e]; simp⟩) (fun m hm=>?_) (fun b u e=>?_) I.bare
 ·obtain⟨_,f1,_,f3,f4,f5⟩:=hch b hb
  exact⟨f3,f1,f4,f5⟩
 ·obtain⟨o,es,ep,ho,r⟩:=hm
  exact⟨o,es,ep,k _ o (fun z=>(hch _ z).2.1 rfl) ho,r⟩
 ·refine(I.hok b u e).stay (fun c v hc q=>k c v ?_ q) (fun d z=>z) fun d ys z=>z
  rcases hc with z | z
  ·rw[z]; exact trk b u e
  ·exact trk c _ z
end
def Ite (K:PySem.W.Frag)(a:Addr):It:=
 ⟨fun i H=>∃xs x,SqL K H a xs∧xs[i]?=some x,fun i H x H'=>∃T v,x=.ref T∧H T=none∧H'=upd H T (.tup [.int (i:Int),v])∧∀xs,SqL K H a xs→xs[i]?=some v,fun i H=>∃xs,SqL K H a xs∧xs.length=i⟩
theorem zr6 {P:Program}{w:World}{K:PySem.W.Frag}{elts:List Expr}{kk:Nat}{tp:Pos}(a e it:Addr)(hei:e≠it)(hae:a≠e)(hai:a≠it):
  zhW P w K (.Tuple elts kk tp) (Ite K a) [e,it] e (fun i h=>(∃old,IsEnum h e it i old)∧h.IsListIter it a i) where
 mem:=by simp
 obj:=fun i h st b hb=>by
  obtain⟨⟨old,he⟩,o,e1,c,d⟩:=st
  have hb':b=e∨b=it:=by simpa using hb
  rcases hb' with rfl | rfl
  ·exact⟨_,he,fun v z=>by cases z⟩
  ·exact⟨o,e1,fun v z=>by rw[d] at z; cases z⟩
 keep:=fun i h h' st k=>by
  obtain⟨⟨old,he⟩,hit⟩:=st
  exact⟨⟨old,k e (by simp) _ he⟩,hit.at fun o x=>k it (by simp) o x⟩
 item:=by
  intro X hP hw hK hc i pins s σ H E I hf st hg
  subst hP hw hK
  obtain⟨xs,x,hq,hx⟩:=hg
  obtain⟨its,rv,p,hz⟩:=I.list hq
  obtain⟨u,hu,ru⟩:=rv.get hx
  have hi:i < its.toArray.size:=by
   have:=(List.getElem?_eq_some_iff.mp hu).1
   simpa using this
  have W:=WalksT.enumerate (prog:=X.prog) (w:=X.w) (A:=X.A) (I.ok.hd hc) e it a hei hae hai its.toArray
  refine W.item i s _ _ hi ⟨st.1,st.2,p.isList⟩ fun T vals h' tk hP hT ht mid k1=>?_
  obtain⟨t,y,hy,rfl⟩:=hP
  have ey:y=u:=by
   have z:its[i]?=some y:=by simpa using hy
   rw[hu] at z; exact(Option.some.inj z).symm
  subst ey
  have hw:∀b∈[e,it],zbG X pins H b:=hf
  have I1:Inv X pins σ (upd H T (.tup [.int (i:Int),x])) { s with heap:=h',toks:=tk }:=zpj I k1 hw hT ht (.cons ⟨t,rfl⟩ (.cons ru .nil)) (show 2≤sizeLine from zfM (by decide))
  have neT:∀b∈[e,it],b≠T:=fun b hb z=>W.apart i T h' mid (z ▸ hb)
  have hf1:∀b∈[e,it],zbG X pins (upd H T (.tup [.int (i:Int),x])) b:=fun b hb=>⟨by rw[za2 (neT b hb)]; exact(hf b hb).1,(hf b hb).2⟩
  refine⟨.ref T,rfl,W.go elts kk tp i T _ _ _ mid fun h2 st2 k2=>?_⟩
  have I2:Inv X pins σ (upd H T (.tup [.int (i:Int),x])) { s with heap:=h2,toks:=tk }:=zlU (s:={ s with heap:=h',toks:=tk }) (t':=tk) I1 k2 hf1
  exact⟨.ref T,_,I2,rfl,⟨T,x,rfl,I.hok.fresh hT,rfl,fun ys hy=>by rw[I.list_inj hy hq]; exact hx⟩,⟨st2.1,st2.2.1⟩,fun b hb=>(hf1 b hb).1⟩
 done:=by
  intro X hP hw hK hc i pins s σ H E I hf st hg
  subst hP hw hK
  obtain⟨xs,hq,hx⟩:=hg
  obtain⟨its,rv,p,hz⟩:=I.list hq
  have W:=WalksT.enumerate (prog:=X.prog) (w:=X.w) (A:=X.A) (I.ok.hd hc) e it a hei hae hai its.toArray
  have hi:i=its.toArray.size:=by rw[List.size_toArray,← rv.length]; exact hx.symm
  subst hi
  exact W.done s _ _ ⟨st.1,st.2,p.isList⟩ fun h' tk k1=>⟨rfl,zlU (t':=tk) I k1 hf⟩
 self:=fun A i s Q E st h=>by
  obtain⟨⟨old,he⟩,_⟩:=st
  exact wpAny_pyIter_enum he h
section
variable {X:Cx}
def zpL (K:PySem.W.Frag)(ta:TA):TI:=fun σ H R=>ta σ H fun vs H1=>∃a,vs=[.ref a]∧(∃xs,SqL K H1 a xs)∧R (Ite K a) H1
theorem ztl {a:Expr}{ta:TA}{p pos tp:Pos}{elts:List Expr}{kk:Nat}(hg:Gl X "enumerate")(hm:X.mg "enumerate"=none)(hv:bootBuiltins "enumerate"=some (.type "enumerate"))(ha:PA X [a] ta)(hs:starEach [a] X.env=[(false,eval a X.env)]:=by rfl):
  PI X (.Tuple elts kk tp) (.Call (.Name "enumerate" p) [a] [] pos) (zpL X.K ta):=by
 intro pins s σ H R I h
 refine Call_ (zfB I hg hm hv (PyProof.Rows.callWith_type1 (thn (ha pos pins s σ H _ I h) fun us s1 ⟨vs,H1,I1,r1,q1⟩=>?_) hs rfl))
 obtain⟨l,e,⟨xs,hq⟩,q⟩:=q1
 subst e
 cases r1 with
 | cons r rr=>
  cases rr
  cases r
  obtain⟨its,rv,pl,hz⟩:=I1.list hq
  have hll:l < s1.heap.objs.size:=by
   obtain⟨o,e,_⟩:=pl.isList
   exact Heap.lt_size e
  refine call_enumerate_list pl.isList fun h' he hit hsz hk=>?_
  have I2:Inv X pins σ H1 { s1 with heap:=h' }:=I1.kept (t':=s1.toks) hk
  refine wpAny_pyIter_enum he ⟨s1.heap.objs.size + 1,[s1.heap.objs.size + 1,s1.heap.objs.size],_,_,H1,rfl,I2,zr6 l _ _ (Nat.succ_ne_self _) (Nat.ne_of_lt (Nat.lt_succ_of_lt hll)) (Nat.ne_of_lt hll),⟨⟨_,he⟩,hit⟩,fun b hb=>?_,q⟩
  have hb':b=s1.heap.objs.size + 1∨b=s1.heap.objs.size:=by simpa using hb
  rcases hb' with rfl | rfl
  ·exact I1.fpOk (Nat.le_succ _) (I1.hok.fresh (Nat.le_succ _))
  ·exact I1.fpOk (Nat.le_refl _) (I1.hok.fresh (Nat.le_refl _))
end
def Itz (K:PySem.W.Frag)(a b:Addr):It:=
  ⟨fun i H=>∃xs ys x y,SqL K H a xs∧SqL K H b ys∧xs[i]?=some x∧ys[i]?=some y,
   fun i H x H'=>∃T v u,x=.ref T∧H T=none∧H'=upd H T (.tup [v,u])∧(∀xs,SqL K H a xs→xs[i]?=some v)∧∀ys,SqL K H b ys→ys[i]?=some u,
   fun i H=>∃xs ys,SqL K H a xs∧SqL K H b ys∧min xs.length ys.length=i⟩
theorem ztX {P:Program}{w:World}{K:PySem.W.Frag}{elts:List Expr}{kk:Nat}{tp:Pos}(a b z TI TO i1 i2:Addr)(D:ZipApart z TI TO i1 i2 a b):
  zhW P w K (.Tuple elts kk tp) (Itz K a b) [z,TI,TO,i1,i2] z (fun i h=>IsZip h z TI TO .none∧IsPair h TI (.ref i1) (.ref i2)∧(∃p q,IsPair h TO p q)∧h.IsListIter i1 a i∧h.IsListIter i2 b i) where
 mem:=by simp
 obj:=fun i h st c hc=>by
  obtain⟨hz,hTI,⟨p,q,hTO⟩,⟨o1,e1,c1,d1⟩,o2,e2,c2,d2⟩:=st
  have hc':c=z∨c=TI∨c=TO∨c=i1∨c=i2:=by simpa using hc
  rcases hc' with rfl | rfl | rfl | rfl | rfl
  ·exact⟨_,hz,fun v y=>by cases y⟩
  ·exact⟨_,hTI,fun v y=>by cases y⟩
  ·exact⟨_,hTO,fun v y=>by cases y⟩
  ·exact⟨o1,e1,fun v y=>by rw[d1] at y; cases y⟩
  ·exact⟨o2,e2,fun v y=>by rw[d2] at y; cases y⟩
 keep:=fun i h h' st k=>by
  obtain⟨hz,hTI,⟨p,q,hTO⟩,h1,h2⟩:=st
  exact⟨k z (by simp) _ hz,k TI (by simp) _ hTI,⟨p,q,k TO (by simp) _ hTO⟩,h1.at fun o x=>k i1 (by simp) o x,h2.at fun o x=>k i2 (by simp) o x⟩
 item:=by
  intro X hP hw hK hc i pins s σ H E I hf st hg
  subst hP hw hK
  obtain⟨xs,ys,x,y,hq,hq2,hx,hy⟩:=hg
  obtain⟨its,rv,p,_⟩:=I.list hq
  obtain⟨jts,rv2,p2,_⟩:=I.list hq2
  obtain⟨u,hu,ru⟩:=rv.get hx
  obtain⟨u2,hu2,ru2⟩:=rv2.get hy
  have hi:i < min its.toArray.size jts.toArray.size:=by
   have z1:=(List.getElem?_eq_some_iff.mp hu).1
   have z2:=(List.getElem?_eq_some_iff.mp hu2).1
   have sizes:its.toArray.size=its.length∧jts.toArray.size=jts.length:=⟨by simp,by simp⟩
   omega
  have W:=WalksT.zip2 (prog:=X.prog) (w:=X.w) (A:=X.A) (I.ok.hd hc) z TI TO i1 i2 a b D its.toArray jts.toArray
  obtain⟨s1,s2,s3,s4,s5⟩:=st
  refine W.item i s _ _ hi ⟨s1,s2,s3,s4,s5,p.isList,p2.isList⟩ fun T vals h' tk hP hT ht mid k1=>?_
  obtain⟨v1,v2,hv1,hv2,rfl⟩:=hP
  have e1:v1=u:=by
   have z:its[i]?=some v1:=by simpa using hv1
   rw[hu] at z; exact(Option.some.inj z).symm
  have e2:v2=u2:=by
   have z:jts[i]?=some v2:=by simpa using hv2
   rw[hu2] at z; exact(Option.some.inj z).symm
  subst e1 e2
  have sub:∀c∈[z,TO,i1,i2],c∈[z,TI,TO,i1,i2]:=fun c hc=>by
   have hc':c=z∨c=TO∨c=i1∨c=i2:=by simpa using hc
   rcases hc' with rfl | rfl | rfl | rfl <;> simp
  have I1:Inv X pins σ (upd H T (.tup [x,y])) { s with heap:=h',toks:=tk }:=zpj I k1 (fun c hc=>hf c (sub c hc)) hT ht (.cons ru (.cons ru2 .nil)) (show 2≤sizeLine from zfM (by decide))
  have tiT:TI≠T:=fun q=>by
   have hl:TI < s.heap.objs.size:=Heap.lt_size s2
   rw[q] at hl
   exact absurd (Nat.lt_of_lt_of_le hl hT) (Nat.lt_irrefl _)
  have neT:∀c∈[z,TI,TO,i1,i2],c≠T:=fun c hc q=>by
   have hc':c=TI∨c∈[z,TO,i1,i2]:=by
    have hc2:c=z∨c=TI∨c=TO∨c=i1∨c=i2:=by simpa using hc
    rcases hc2 with rfl | rfl | rfl | rfl | rfl <;> simp
   rcases hc' with rfl | hc'
   ·exact tiT q
   ·exact W.apart i T h' mid (q ▸ hc')
  have hf1:∀c∈[z,TI,TO,i1,i2],zbG X pins (upd H T (.tup [x,y])) c:=fun c hc=>⟨by rw[za2 (neT c hc)]; exact(hf c hc).1,(hf c hc).2⟩
  refine⟨.ref T,rfl,W.go elts kk tp i T _ _ _ mid fun h2 st2 k2=>?_⟩
  have I2:Inv X pins σ (upd H T (.tup [x,y])) { s with heap:=h2,toks:=tk }:=zlU (s:={ s with heap:=h',toks:=tk }) (t':=tk) I1 k2 fun c hc=>hf1 c (sub c hc)
  obtain⟨t1,t2,t3,t4,t5,_,_⟩:=st2
  exact⟨.ref T,_,I2,rfl,⟨T,x,y,rfl,I.hok.fresh hT,rfl,fun zs hz=>by rw[I.list_inj hz hq]; exact hx,fun zs hz=>by rw[I.list_inj hz hq2]; exact hy⟩,⟨t1,t2,t3,t4,t5⟩,fun c hc=>(hf1 c hc).1⟩
 done:=by
  intro X hP hw hK hc i pins s σ H E I hf st hg
  subst hP hw hK
  obtain⟨xs,ys,hq,hq2,hx⟩:=hg
  obtain⟨its,rv,p,_⟩:=I.list hq
  obtain⟨jts,rv2,p2,_⟩:=I.list hq2
  have W:=WalksT.zip2 (prog:=X.prog) (w:=X.w) (A:=X.A) (I.ok.hd hc) z TI TO i1 i2 a b D its.toArray jts.toArray
  have hi:i=min its.toArray.size jts.toArray.size:=by rw[List.size_toArray,List.size_toArray,← rv.length,← rv2.length]; exact hx.symm
  subst hi
  have sub:∀c∈[z,TO,i1,i2],c∈[z,TI,TO,i1,i2]:=fun c hc=>by
   have hc':c=z∨c=TO∨c=i1∨c=i2:=by simpa using hc
   rcases hc' with rfl | rfl | rfl | rfl <;> simp
  obtain⟨s1,s2,s3,s4,s5⟩:=st
  exact W.done s _ _ ⟨s1,s2,s3,s4,s5,p.isList,p2.isList⟩ fun h' tk k1=>⟨rfl,zlU (t':=tk) I k1 fun c hc=>hf c (sub c hc)⟩
 self:=fun A i s Q E st h=>wpAny_pyIter_zip st.1 h
section
variable {X:Cx}
theorem zr0 {n l m:Nat}(h1:l < n)(h2:m < n):ZipApart (n + 4) (n + 2) (n + 3) n (n + 1) l m:=by
 have ne:∀ {i j:Nat},i < j∨j < i→i≠j:=fun {i j} h z=>by omega
 exact⟨ne (by omega),ne (by omega),ne (by omega),ne (by omega),ne (by omega),ne (by omega),ne (by omega),ne (by omega),ne (by omega),ne (by omega),ne (by omega),ne (by omega),ne (by omega),ne (by omega),ne (by omega),ne (by omega),ne (by omega),ne (by omega)⟩
def iZip (K:PySem.W.Frag)(ta:TA):TI:=fun σ H R=>ta σ H fun vs H1=>∃a b,vs=[.ref a,.ref b]∧(∃xs,SqL K H1 a xs)∧(∃ys,SqL K H1 b ys)∧R (Itz K a b) H1
theorem zn3 {a b:Expr}{ta:TA}{p pos tp:Pos}{elts:List Expr}{kk:Nat}(hg:Gl X "zip")(hm:X.mg "zip"=none)(hv:bootBuiltins "zip"=some (.type "zip"))(ha:PA X [a,b] ta)
  (hs:starEach [a,b] X.env=[(false,eval a X.env),(false,eval b X.env)]:=by rfl)(hs2:starEach [b] X.env=[(false,eval b X.env)]:=by rfl):PI X (.Tuple elts kk tp) (.Call (.Name "zip" p) [a,b] [] pos) (iZip X.K ta):=by
 intro pins s σ H R I h
 refine Call_ (zfB I hg hm hv (PyProof.Rows.callWith_type1 (thn (ha pos pins s σ H _ I h) fun us s1 ⟨vs,H1,I1,r1,q1⟩=>?_) (by rw[hs,hs2]) (by rw[hs2]; rfl)))
 obtain⟨l,m,e,⟨xs,hq⟩,⟨ys,hq2⟩,q⟩:=q1
 subst e
 cases r1 with
 | cons r rr=>
  cases rr with
  | cons r2 rr=>
   cases rr
   cases r
   cases r2
   obtain⟨its,rv,pl,_⟩:=I1.list hq
   obtain⟨jts,rv2,pl2,_⟩:=I1.list hq2
   have h1:l < s1.heap.objs.size:=by
    obtain⟨o,e,_⟩:=pl.isList
    exact Heap.lt_size e
   have h2:m < s1.heap.objs.size:=by
    obtain⟨o,e,_⟩:=pl2.isList
    exact Heap.lt_size e
   refine call_zip_2 pl.isList pl2.isList fun h' hz hTI hTO hi1 hi2 hsz hk=>?_
   have I2:Inv X pins σ H1 { s1 with heap:=h' }:=I1.kept (t':=s1.toks) hk
   have D:=zr0 h1 h2
   refine wpAny_pyIter_zip hz ⟨s1.heap.objs.size + 4,[s1.heap.objs.size + 4,s1.heap.objs.size + 2,s1.heap.objs.size + 3,s1.heap.objs.size,s1.heap.objs.size + 1],_,_,H1,rfl,I2,ztX l m _ _ _ _ _ D,⟨hz,hTI,⟨_,_,hTO⟩,hi1,hi2⟩,fun c hc=>?_,q⟩
   have hge:s1.heap.objs.size≤c:=by
    have hc':c=s1.heap.objs.size + 4∨c=s1.heap.objs.size + 2∨c=s1.heap.objs.size + 3∨c=s1.heap.objs.size∨c=s1.heap.objs.size + 1:=by simpa using hc
    rcases hc' with rfl | rfl | rfl | rfl | rfl
    ·exact Nat.le_add_right _ _
    ·exact Nat.le_add_right _ _
    ·exact Nat.le_add_right _ _
    ·exact Nat.le_refl _
    ·exact Nat.le_add_right _ _
   exact I1.fpOk hge (I1.hok.fresh hge)
end
section
variable {X:Cx}{Z:Zx}{pos:Pos}
theorem zc6 {r r':List Addr}{S':Sto}{H':Hp}{n:Nat}{a:Addr}{o:Ob}(hn:r'[n]?=some a)(rel:zaU X.K r' S' H')(eo:lAt S' n=some o):∃xs,SqL X.K H' a xs∧Rps r' H' (zai o) xs:=by
 obtain⟨eo,eL⟩:=zbt eo
 obtain⟨a',ha,ob⟩:=rel.at eo
 rw[hn] at ha; cases ha
 exact ob.list eL
@[irreducible] def zmL (is:List Nat)(ta:TDA)(tb:TDS):TDS:=fun E dl S=>ta dl S fun ds S1=>match ds with
 | [.ref n,.ref n']=>((lAt S1 n).isSome=true∧(lAt S1 n').isSome=true)∧∃W:Nat→Nat→Ev→Sto→Prop,(∃m,W 0 m dl S1)∧∀k m dl S,W k m dl S→match lAt S n,lAt S n' with
  | some o,some o'=>match (zai o)[k]?,(zai o')[k]? with
   | some x,some y=>tb { nx:=fun dl' S'=>∃m',m' < m∧W (k + 1) m' dl' S',rt:=E.rt,bk:=E.nx,ct:=fun dl' S'=>∃m',m' < m∧W (k + 1) m' dl' S' } (zf1 is [x,y] dl) S
   | _,_=>k=min (zai o).length (zai o').length∧E.nx dl S
  | _,_=>False
 | _=>False
theorem zu3 {i1 i2:Expr}{body:List Stmt}{es:List Expr}{kk:Nat}{tp p pos2:Pos}{is:List Nat}{ta:TDA}{tb:TDS}(hp:PassesOwn (model X.prog X.w) X.A X.env X.xe)(hc:X.calm=true)(hN:X.N.Nodup)(hn:Nms X es is)(h2:is.length=2)
  (hg:Gl X "zip")(hm:X.mg "zip"=none)(hv:bootBuiltins "zip"=some (.type "zip"))(ha:PDA X Z [i1,i2] ta)(hb:zcJ X Z body tb)
  (hlen:(assignEach es X.env).length=is.length:=by rfl)(hst:(assignEach es X.env).findIdx? (·.1)=none:=by rfl)(hse:starEach [i1,i2] X.env=[(false,eval i1 X.env),(false,eval i2 X.env)]:=by rfl)(hse2:starEach [i2] X.env=[(false,eval i2 X.env)]:=by rfl)
  (hs:∀y,foldedSetIterable (.Call (.Name "zip" p) [i1,i2] [] pos2) X.env y=pure y:=by intro _; rfl):PDS X Z (.For (.Tuple es kk tp) (.Call (.Name "zip" p) [i1,i2] [] pos2) body [] pos) (zmL is ta tb):=
 zb7 (zm6 hp hc (zn3 hg hm hv ha hse hse2) (zl8 hc (zgt hN hn) hlen hst) hb hs) fun F σ H ⟨r,dl,S,E,rs,rel,h,ret⟩=>by
  unfold zmL at h
  refine⟨r,dl,S,_,rs,rel,h,fun vs H1 r1 ds S1 x1 rel1 p1 q1=>?_⟩
  split at q1
  ·rename_i n n'
   obtain⟨v,vs',rfl,p2,p3⟩:=p1.uncons
   obtain⟨v',vs2,rfl,p4,p5⟩:=p3.uncons
   have z:=p5.unnil
   subst z
   cases p2 with
   | @ref n a hr=>
    cases p4 with
    | @ref n' a' hr'=>
     obtain⟨⟨hsome,hsome'⟩,W,⟨m0,w0⟩,turn⟩:=q1
     obtain⟨o1,eo1⟩:=Option.isSome_iff_exists.mp hsome
     obtain⟨o2,eo2⟩:=Option.isSome_iff_exists.mp hsome'
     obtain⟨xs1,sq1,_⟩:=zc6 (r:=r1) hr rel1.b eo1
     obtain⟨ys1,sq2,_⟩:=zc6 (r:=r1) hr' rel1.b eo2
     refine⟨a,a',rfl,⟨xs1,sq1⟩,⟨ys1,sq2⟩,fun k m σ' H'=>∃r' dl' S',Ext r1 r' H1 H'∧Rs r' H' dl' σ'∧Rel X.K Z r' S' H'∧W k m dl' S',⟨m0,r1,dl,S1,Ext.refl,rs.ext x1,rel1,w0⟩,?_⟩
     rintro k m σ2 H2 ⟨r2,dl2,S2,x2,rs2,rel2,w2⟩
     have q:=turn k m dl2 S2 w2
     split at q
     ·rename_i o o' eo eo'
      obtain⟨xs,sq,pr⟩:=zc6 (r:=r2) (x2.adr _ _ hr) rel2.b eo
      obtain⟨ys,sq',pr'⟩:=zc6 (r:=r2) (x2.adr _ _ hr') rel2.b eo'
      split at q
      ·rename_i y y2 ey ey2
       obtain⟨v,hvv,pv⟩:=pr.get ey
       obtain⟨u,hvu,pu⟩:=pr'.get ey2
       refine .inr ⟨⟨xs,ys,v,u,sq,sq',hvv,hvu⟩,fun σ' H'=>∃m',m' < m∧∃r' dl' S',Ext r1 r' H1 H'∧Rs r' H' dl' σ'∧Rel X.K Z r' S' H'∧W (k + 1) m' dl' S',fun _ _ z=>z,fun v' H' y'=>?_⟩
       obtain⟨T,w,w2',rfl,hT,rfl,hw,hw2⟩:=y'
       have ew:w=v:=by
        have z:=hw xs sq
        rw[hvv] at z; exact(Option.some.inj z).symm
       have ew2:w2'=u:=by
        have z:=hw2 ys sq'
        rw[hvu] at z; exact(Option.some.inj z).symm
       subst ew ew2
       have x3:Ext r2 r2 H2 (upd H2 T (.tup [w,w2'])):=zoe hT
       have pp:Rps r2 (upd H2 T (.tup [w,w2'])) [y,y2] [w,w2']:=Rps.cons (pv.ext x3) (Rps.cons (pu.ext x3) Rps.nil)
       have rel3:=rel2.same (zc4 (o:=.tup [w,w2']) hT)
       have go:∀σ' H' r' dl' S',Ext r2 r' (upd H2 T (.tup [w,w2'])) H'→Rs r' H' dl' σ'→Rel X.K Z r' S' H'→(∃m',m' < m∧W (k + 1) m' dl' S')→∃m',m' < m∧∃r' dl' S',Ext r1 r' H1 H'∧Rs r' H' dl' σ'∧Rel X.K Z r' S' H'∧W (k + 1) m' dl' S':=
        fun σ' H' r' dl' S' x rs' rel' ⟨m',hm,w'⟩=>⟨m',hm,r',dl',S',x2.trans (x3.trans x),rs',rel',w'⟩
       exact⟨T,[w,w2'],rfl,SqT.of zcC,by rw[h2]; rfl,by rw[h2]; rfl,r2,_,S2,_,zqC (rs2.ext x3) pp,rel3,q,⟨go,fun σ' H' r' dl' S' x rs' rel' z=>ret.nx σ' H' r' dl' S' (x1.trans (x2.trans (x3.trans x))) rs' rel' z,go,ret.rt.ext (x1.trans (x2.trans x3))⟩⟩
      ·obtain⟨hk,q⟩:=q
       exact .inl ⟨⟨xs,ys,sq,sq',by rw[← pr.1,← pr'.1]; exact hk.symm⟩,ret.nx σ2 H2 r2 dl2 S2 (x1.trans x2) rs2 rel2 q⟩
     ·exact q.elim
  ·exact q1.elim
end
end L3

namespace L3
open PySem PySem.Spec PyProof.Rows L2
section
variable {X:Cx}{Z:Zx}{pos:Pos}
@[irreducible] def zl6 (T:String)(te:TDE):TDE:=fun dl S Q=>te dl S fun d S1=>match d with
 | .ref n=>match S1[n]? with
  | some (.lst _)=>Q (.bl (zc9 "list" T)) S1
  | _=>False
 | _=>False
theorem zty {T:String}{e:Expr}{te:TDE}{y:Str}{p p2:Pos}(KT:PySem.W.kitOne X.K (.type "list") (.type T)=some (zc9 "list" T))(hg:Gl X "isinstance")(hm:X.mg "isinstance"=none)(hg2:Gl X y)(hm2:X.mg y=none)(hv2:bootBuiltins y=some (.type T))(ha:PD X Z e te)
  (hv:bootBuiltins "isinstance"=some (.builtin "isinstance"):=by exact PyProof.Rows.Boot.«isinstance»)
  (hn2:y≠"__name__":=by decide)(hd2:(y == ("__debug__":Str))=false:=by decide)(he2:starEach [e,.Name y p2] X.env=(false,eval e X.env)::starEach [.Name y p2] X.env:=by rfl)
  (he3:starEach [.Name y p2] X.env=(false,eval (.Name y p2) X.env)::starEach [] X.env:=by rfl)(hpl:(backTo pos (starEach [.Name y p2] X.env)).any (·.1)=false:=by rfl):
  PD X Z (.Call (.Name "isinstance" p) [e,.Name y p2] [] pos) (zl6 T te):=
 za8 (zmR zo3 hg hm hv (zft ha (zft (zqm (v:=.ty T) hg2 hm2 hv2 rfl hn2 hd2) ziH he3) he2) (by decide) (by decide) he2 hpl) fun σ H Qv ⟨r,dl,S,Q,rs,rel,h,ret⟩=>
  by unfold zl6 at h; exact⟨r,dl,S,_,rs,rel,h,fun v H1 r1 d S1 e1 rel1 p1 h1=>by
   cases p1 with
   | @ref n a hr=>
    dsimp only at h1
    split at h1
    ·rename_i xs eS
     obtain⟨ys,eH,_⟩:=rel1.b.ob n a _ hr eS
     exact⟨_,T,_,_,rfl,.lst eH,KT,ret _ _ _ _ _ e1 rel1 (.bl _) h1⟩
    ·exact h1.elim
   | _=>exact(show False from h1).elim⟩
end
theorem zv0 (K:PySem.W.Frag):PySem.W.kitOne K (.type "list") (.type "list")=some (zc9 "list" "list"):=by kernel_rfl
end L3

namespace L3
open PySem PySem.Spec PyProof.Rows L2
structure Dm (K:PySem.W.Frag)(C:Addr)(m qual:Str)(st:Stmt)(ps:List Str) where
 f:Addr
 fd:FuncData
 F:Fun K m qual st f fd
 m:zfw K C m f
 b:zbM K fd ps []
structure Fm (P:Program)(w:World)(K:PySem.W.Frag)(mg:Str→Option Value)(base:Heap)(k:Nat)(C:Addr)(x:Str)(ps:List Str)(sd:Sd) where
 f:Addr
 fd:FuncData
 ok:zbb P w K mg base (CXE P w) k f fd ps (upF K sd)
 m:zfw K C x f
 b:zbM K fd ps []
def Dm.mk' {P:Program}{w:World}{K:PySem.W.Frag}{mg:Str→Option Value}{base:Heap}{k:Nat}{C:Addr}{x qual:Str}{st:Stmt}{ps:List Str}{sd:Sd}(d:Dm K C x qual st ps)(h:zbb P w K mg base (CXE P w) k d.f d.fd ps (upF K sd)):Fm P w K mg base k C x ps sd:=
 ⟨d.f,d.fd,h,d.m,d.b⟩
theorem zfs {P:Program}{w:World}{X:Cx}:ziZ (CXE P w) X (fun _ _ _=>False):=fun _ _ _ _ _ _ _ h=>by
 obtain⟨_,_,_,_,_,_,_,_,_,_,_,_,q⟩:=h
 exact q.elim
section
variable {X:Cx}{Z:Zx}
theorem zuR {k:Nat}(hr:zaJ k X.A):OpR X (compareOp .NotIn) (upO X.K Z (zbE (wIn 1 true))):=by rw[zbY]; exact ztq 1 (by have:=hr.un; omega)
theorem zuU {k:Nat}(hr:zaJ k X.A):OpR X (compareOp .Eq) (upO X.K Z (zbE (zeq 1))):=by rw[zbY]; exact zvE 1 hr (by have:=hr.un; omega)
end
end L3

namespace L3
open PySem PySem.Spec PyProof.Rows L2
section
variable {X:Cx}{Z:Zx}{pos:Pos}
theorem ztt {k n m:Nat}{a a':Addr}{o o':Ob}{b:Bool}{pins:List (Addr×Obj)}{σ:St}{H:Hp}{s:Shared}{r:List Addr}{S:Sto}(I:Inv X pins σ H s)(rel:Rel X.K Z r S H)(hn:r[n]?=some a)(hm:r[m]?=some a')(eo:lAt S n=some o)(eo':lAt S m=some o')
  (e:eqL (eqN k) (zai o) (zai o')=some b)(hu:X.A.units + 1 + k < cLine):SeqAt.RcNeAt X.A s (.ref a) (.ref a') (!b):=by
 obtain⟨eo,eL⟩:=zbt eo
 obtain⟨eo',eL'⟩:=zbt eo'
 obtain⟨z,hz,ob⟩:=rel.at eo
 rw[hn] at hz; cases hz
 obtain⟨z,hz,ob'⟩:=rel.at eo'
 rw[hm] at hz; cases hz
 obtain⟨xs,sq,pr⟩:=ob.list eL
 obtain⟨ys,sq',pr'⟩:=ob'.list eL'
 obtain⟨is,ri,pl,_⟩:=I.list sq
 obtain⟨js,rj,pl',_⟩:=I.list sq'
 obtain⟨g1,g2⟩:=zeD (A:=X.A.in1) (zdH k) I (by show X.A.units + 1 + k < _; omega) pr pr' ri rj e
 by_cases hs:is.toArray.size=js.toArray.size
 ·have q:=SeqAt.RcNeAt.lists (A:=X.A) pl.isList pl'.isList hs (by omega) g1
  have e2:(List.range is.toArray.size).all (zcm (eqN k) (zai o) (zai o'))=b:=by
   rw[← g2,← hs,Nat.min_self]; simp
  rw[e2] at q
  exact q
 ·have q:=SeqAt.RcNeAt.lists_lengths (A:=X.A) pl.isList pl'.isList (by simpa using hs) (by omega)
  have e2:b=false:=by
   rw[← g2,show (is.toArray.size == js.toArray.size)=false by simpa using hs,Bool.and_false]
  rw[e2]
  exact q
theorem zuY (k:Nat){j:Nat}(hr:zaJ j X.A)(hu:X.A.units + 1 + k < cLine):OpR X (compareOp .NotEq) (upO X.K Z (zen k)):=by
 intro pins s σ H x y v u Qv I rx ry h
 obtain⟨r,S,dx,dy,Q,rel,px,py,q,ret⟩:=h
 have zaN:∀ {dx dy:D} {x y:V},Rp r H dx x→Rp r H dy y→zav x v→zav y u→zdL k S dx dy=eqN (k + 1) dx dy→zen k dx dy S Q→wpAny (model X.prog X.w) X.A (compareOp .NotEq v u) (EP X pins σ Qv) X.xe s:=fun px py rx ry e q=>by
  refine zqI (Z:=Z) (zdH k) hu pins s σ H _ _ v u Qv I rx ry ⟨r,S,_,_,Q,rel,px,py,?_,ret⟩
  unfold zen at q
  rw[e] at q
  exact q
 cases px with
 | @ref n a hn=>
  cases py with
  | @ref m a' hm=>
   cases rx
   cases ry
   unfold zen zdL at q
   dsimp only at q
   split at q
   ·rename_i b e
    split at e
    ·rename_i o o' eo eo'
     exact ztt I rel hn hm eo eo' e hu X.prog X.w X.xe _ ⟨.bl (!b),H,I,rfl,ret _ _ _ _ _ Ext.refl rel (.bl (!b)) q⟩
    ·cases e
   ·exact q.elim
  | non=>exact zaN (.ref hn) .non rx ry rfl q
  | bl i=>exact zaN (.ref hn) (.bl i) rx ry rfl q
  | int i=>exact zaN (.ref hn) (.int i) rx ry rfl q
  | str i=>exact zaN (.ref hn) (.str i) rx ry rfl q
  | tup a b c=>exact zaN (.ref hn) (.tup a b c) rx ry rfl q
  | exc a=>exact zaN (.ref hn) (.exc a) rx ry rfl q
 | non=>exact zaN .non py rx ry rfl q
 | bl i=>exact zaN (.bl i) py rx ry rfl q
 | int i=>exact zaN (.int i) py rx ry rfl q
 | str i=>exact zaN (.str i) py rx ry rfl q
 | tup a b c=>exact zaN (.tup a b c) py rx ry rfl q
 | exc a=>exact zaN (.exc a) py rx ry rfl q
theorem zob {k:Nat}(hr:zaJ k X.A):OpR X (compareOp .NotEq) (upO X.K Z (zbE (zen 1))):=by rw[zbY]; exact zuY 1 hr (by have:=hr.un; omega)
theorem zm9 {k n m:Nat}{S:Sto}{Q:DK}{o o':Ob}{b:Bool}(h1:lAt S n=some o)(h2:lAt S m=some o')(e:eqL (eqN k) (zai o) (zai o')=some b)(hq:Q (.bl (!b)) S):zbE (zen k) (.ref n) (.ref m) S Q:=by
 rw[zbY]
 unfold zen
 simp only[zdL,h1,h2,e]
 exact hq
def zid:W2:=fun x y S Q=>match x,y with
 | .ref n,.ref m=>match S[n]?,S[m]? with
  | some (.lst xs),some (.lst ys)=>xs.length + ys.length≤1000∧Q (.ref S.length) (S++[.lst (xs++ys)])
  | _,_=>False
 | _,_=>False
theorem Rps.app {r:List Addr}{H:Hp}:∀ {ds es:List D} {xs ys:List V},Rps r H ds xs→Rps r H es ys→Rps r H (ds++es) (xs++ys)
 | [],es,xs,ys,p,q=>by
  have z:=p.unnil
  subst z
  exact q
 | d::ds,es,xs,ys,p,q=>by
  obtain⟨v,vs,rfl,p1,p2⟩:=p.uncons
  exact Rps.cons p1 (p2.app q)
theorem zq2:OpR X (binaryOp .Add) (upO X.K Z (zbE zid)):=by
 rw[zbY]
 exact zek zuW fun x y H Qv ⟨r,S,dx,dy,Q,rel,px,py,q,ret⟩=>by
  unfold zid at q
  split at q
  ·rename_i n m
   split at q
   ·rename_i xs ys e1 e2
    obtain⟨hl,q⟩:=q
    cases px with
    | @ref _ a hn=>
     cases py with
     | @ref _ a' hm=>
      obtain⟨z,hz,ob⟩:=rel.at e1
      rw[hn] at hz; cases hz
      obtain⟨z,hz,ob'⟩:=rel.at e2
      rw[hm] at hz; cases hz
      obtain⟨us,h1,p1⟩:=ob
      obtain⟨vs,h2,p2⟩:=ob'
      refine⟨a,a',us,vs,rfl,rfl,h1,h2,?_,fun p hp=>?_⟩
      ·rw[← p1.1,← p2.1]; exact zfM hl
      ·obtain⟨rel4,x⟩:=rel.push hp (p1.app p2)
       exact ret _ _ _ (.ref S.length) _ x rel4 (zem rel.len) q
   ·exact q.elim
  ·exact q.elim
theorem zpR {n m:Nat}{S:Sto}{Q:DK}{xs ys:List D}(h1:S[n]?=some (.lst xs))(h2:S[m]?=some (.lst ys))(hl:xs.length + ys.length≤1000)(hq:Q (.ref S.length) (S++[.lst (xs++ys)])):zbE zid (.ref n) (.ref m) S Q:=by
 rw[zbY]
 unfold zid
 simp only[h1,h2]
 exact⟨hl,hq⟩
def MT (X:Cx)(m:Str)(tbl:List (Addr×Sd)):Prop:=∀C sd,(C,sd)∈tbl→Cls X.K C∧∃(f:Addr) (fd:FuncData) (k:Nat) (ps:List Str),zfw X.K C m f∧zbb X.prog X.w X.K X.mg X.base (CXE X.prog X.w) k f fd ps (upF X.K sd)∧zaJ k X.A∧zbM X.K fd ps []
theorem zpD {m:Str}:MT X m []:=fun _ _ h=>by cases h
theorem zcw {C:Addr}{m:Str}{k:Nat}{ps:List Str}{sd:Sd}{tbl:List (Addr×Sd)}(c:Cls X.K C)(G:Fm X.prog X.w X.K X.mg X.base k C m ps sd)(hr:zaJ k X.A)(h:MT X m tbl):MT X m ((C,sd)::tbl):=fun C' sd' hm=>by
 rcases List.mem_cons.mp hm with e | e
 ·cases e
  exact⟨c,G.f,G.fd,k,ps,G.m,G.ok,hr,G.b⟩
 ·exact h C' sd' e
theorem zsj {m:Str}{W:St→XK}{o e:Expr}{es:List Expr}{ta:TE}{t:TA}{apos:Pos}{pl:Sem Bool}{tbl:List (Addr×Sd)}(he:PE X o ta)(M:MT X m tbl)(hx:zc7 X W)(ha:PA X (e::es) t)(hst:starEach (e::es) X.env=(false,eval e X.env)::starEach es X.env)(hpl:(backTo pos (starEach es X.env)).any (·.1)=false)
  (ht:eval (.Call (.Attribute o m apos) (e::es) [] pos) X.env=(do
   let ov ← eval o X.env
   standAt apos.atName
   let (f,first) ← holding [ov] (getMethod ov m pl)
   callWith pos f first (backTo pos (starEach (e::es) X.env)) (backToKw pos (keywordEach [] X.env)))):
  PE X (.Call (.Attribute o m apos) (e::es) [] pos) (fun σ H Q=>ta σ H fun x H1=>∃a C dx fs sd,x=.ref a∧H1 a=some (.ins C dx fs)∧(C,sd)∈tbl∧fs.lookup m=none∧t σ H1 fun vs H2=>upF X.K sd (x::vs) H2 Q (W σ)):=by
 intro pins s σ H Q I h
 refine PySem.W.methodCall_KW (pl:=pl) (thn (he pins s σ H _ I h) fun u s1 ⟨x,H1,I1,rx,a,C,dx,fs,sd,ex,ea,hm',l,q⟩=>?_) ht
 subst ex
 obtain rfl:u=Value.ref a:=rx
 obtain⟨c,f,fd,k,ps,hm,F,hr,hb⟩:=M C sd hm'
 refine zpA I1 ea c hm l ?_
 exact PySem.W.callWith_K (first:=[.ref a]) (h₀:=X.base) I.ok.mod.kin hm.kp (thn (ha pos pins s1 σ H1 _ I1 q) fun us s2 ⟨vs,H2,I2,r,q2⟩=>⟨I2.kIn,zng (us:=.ref a::us) (vs:=.ref a::vs) F hr hb hx I2 (.cons rfl r) q2⟩) hst hpl
@[irreducible] def zjs (tbl:List (Addr×Sd))(m:Str)(ex:Ev→Addr→Sto→Prop)(to:TDE)(t:TDA):TDE:=fun dl S Q=>to dl S fun d S1=>∃n C fs sd,d=.ref n∧S1[n]?=some (.ins C fs)∧(C,sd)∈tbl∧fs.lookup m=none∧t dl S1 fun ds S2=>sd (d::ds) S2 Q (ex dl)
theorem zqG {m:Str}{o e:Expr}{es:List Expr}{to:TDE}{t:TDA}{apos:Pos}{pl:Sem Bool}{ex:Ev→Addr→Sto→Prop}{W:St→XK}{tbl:List (Addr×Sd)}(ho:PD X ⟨ex,W⟩ o to)(M:MT X m tbl)(hx:zc7 X W)(ha:PDA X ⟨ex,W⟩ (e::es) t)
  (hst:starEach (e::es) X.env=(false,eval e X.env)::starEach es X.env:=by rfl)(hpl:(backTo pos (starEach es X.env)).any (·.1)=false:=by rfl)
  (ht:eval (.Call (.Attribute o m apos) (e::es) [] pos) X.env=(do
   let ov ← eval o X.env
   standAt apos.atName
   let (f,first) ← holding [ov] (getMethod ov m pl)
   callWith pos f first (backTo pos (starEach (e::es) X.env)) (backToKw pos (keywordEach [] X.env))):=by rfl):PD X ⟨ex,W⟩ (.Call (.Attribute o m apos) (e::es) [] pos) (zjs tbl m ex to t):=
 za8 (zsj ho M hx ha hst hpl ht) fun σ H Qv ⟨r,dl,S,Q,rs,rel,h,ret⟩=>by
  unfold zjs at h
  refine⟨r,dl,S,_,rs,rel,h,fun v H1 r1 d S1 e1 rel1 p1 q1=>?_⟩
  obtain⟨n,C,fs,sd,rfl,eS,hm,hl,q1⟩:=q1
  obtain⟨a,dx,fs',rfl,hr1,eH,fr⟩:=zqJ (C:=C) (n:=n) (fs:=fs) rel1.b p1 (by simp only[zc3,eS,if_pos])
  exact⟨a,C,dx,fs',sd,rfl,eH,hm,fr.lookup.2 hl,r1,dl,S1,_,rs.ext e1,rel1,q1,fun vs H2 r2 ds S2 e2 rel2 p2 q2=>zoi (Z:=⟨ex,W⟩) (rs.ext (e1.trans e2)) rel2 (Rps.cons (p1.ext e2) p2) q2 (ret.ext (e1.trans e2))⟩
theorem zpu {tbl:List (Addr×Sd)}{C:Addr}{m:Str}{ex:Ev→Addr→Sto→Prop}{sd:Sd}{to:TDE}{t:TDA}{dl:Ev}{S S1:Sto}{Q:DK}{n:Nat}{fs:List (Str×D)}(hto:∀K:DK,K (.ref n) S1→to dl S K)(h:S1[n]?=some (.ins C fs))(hm:(C,sd)∈tbl)(hf:fs.lookup m=none)(hq:t dl S1 fun ds S2=>sd (.ref n::ds) S2 Q (ex dl)):zjs tbl m ex to t dl S Q:=by
 unfold zjs
 exact hto _ ⟨n,C,fs,sd,rfl,h,hm,hf,hq⟩
structure Kx (K:PySem.W.Frag)(C:Addr):Prop where
 cl:Cls K C
 ha:PySem.W.findIn K (.ref C) "__class__"=some (some (.builtin "object.__class__"))
 hn:PySem.W.specialIn K (.builtin "object.__class__") "__get__"=some (some (.builtin "getset_descriptor.__get__"))
 ht:PySem.W.takesIn K (.builtin "object.__class__")=some true
 hm:PySem.W.mroIn K C (.type "object")=some true
def KT (K:PySem.W.Frag)(cv:Value)(ans:List (Addr×Bool)):Prop:=∀C b,(C,b)∈ans→PySem.W.kitOne K (.ref C) cv=some b∧Kx K C
end
end L3

namespace L3
open PySem PySem.Spec PyProof.Rows L2
section
variable {X:Cx}{Z:Zx}
end
end L3

namespace L3
open PySem PySem.Spec PyProof.Rows L2
section
variable {n:Nat}{I:Addr}{fp wr:List Addr}{P:Nat→Value→Prop}{St:Nat→Shared→Prop}{prog:Program}{w:World}{A:Around}{s:Shared}{E:Value→Shared→Prop}{G:Array GenState→Array GenState→Prop}
end
section
variable {X:Cx}{Z:Zx}
end
end L3


namespace L3
open PySem PySem.Spec PyProof.Rows L2
structure zdM (sc around:Scope)(own caps:List Str):Prop where
 kind:sc.kind=.function
 nocell:∀y∈sc.names,y.2≠.cell
 own:∀y∈sc.names,y.2=.local→sc.names.lookup y.1=some .local
 cap:∀y∈caps,sc.names.lookup y=some .free
 out:∀y∈sc.names,y.2=.free→around.names.lookup y.1=some .cell
def zgU (k:Nat)(caps:List Nat)(wi:TI)(gt:TG)(te:TE):TE:=fun σ H Q=>wi σ H fun J H1=>∀D,H1 D=none→∃W:Nat→Nat→Hp→Prop,(∃m,W 0 m (upd H1 D (.lst [])))∧∀i m H,W i m H→
 (J.stop i H∧Q (.ref D) H)∨(J.go i H∧∀x H',J.yld i H x H'→∀o:St,o.length=k→gt x (o++zbg caps σ) H' fun σ8 H8=>(∃o8:St,o8.length=k∧σ8=o8++zbg caps σ)∧
  te σ8 H8 fun y H3=>∃ys,H3 D=some (.lst ys)∧ys.length < sizeLine∧∃m',m' < m∧W (i + 1) m' (upd H3 D (.lst (ys++[y]))))
section
variable {X:Cx}{pins:List (Addr×Obj)}{σ:St}{H:Hp}{s:Shared}
theorem zrZ {sc:Scope}{own N:List Str}{caps:List Nat}{cl:List (Str×Addr)}{fp:List Addr}{h1:Heap}{m:Str→Option Value}{tk:Nat}(I:Inv X pins σ H s)(cs:zdM sc X.env.scope own N)
  (hN:∀(j:Nat) (y:Str),N[j]?=some y→∃i,caps[j]?=some i∧X.N[i]?=some y)(hlen:caps.length=N.length)
  (c1:∀x c,cl.lookup x=some c→X.env.cells.lookup x=some c)(c2:∀y∈sc.names,y.2=.free→cl.lookup y.1=X.env.cells.lookup y.1)
  (hf:∀b∈fp,zbG X pins H b)(hfo:∀b∈fp,b < s.heap.objs.size)(hns:h1.Ns s.heap.objs.size m)(hk:∀b o,s.heap.get? b=some o→h1.get? b=some o):
  Inv (Cx.comp X sc (own++N) cl s.heap.objs.size s H fp (X.pn++pins)) [] (List.replicate own.length none++zbg caps σ) H { s with heap:=h1,toks:=tk }:=by
 have stk:∀b∈frs X.stack,b=X.env.locals∨b∈X.fs:=fun b hb=>List.mem_cons.mp (I.stkSub b hb)
 refine⟨⟨I.ok.mod,cs.kind,I.ok.glob,I.ok.blt,Nat.le_refl _,fun a b c h1 h2=>I.ok.inj a b c (c1 _ _ h1) (c1 _ _ h2),fun y hy=>?_,fun _ _ z=>Bool.noConfusion z,I.ok.hd,I.ok.frames,.inl rfl,fun b hb=>⟨Nat.ne_of_lt (hfo b hb),fun y c e=>(hf b hb).2.2.2.2.1 y c (c1 _ _ e)⟩,
  I.bs,Nat.le_trans I.ok.bsz I.sz,fun b o e hb=>?_,fun b hb z=>?_,I.stack,I.stkFree⟩,rfl,I.bare,Un.kept hk,⟨m,hns,fun i y v e1 e2 e3=>?_⟩,fun y c e=>?_,I.hok.fresh (Nat.le_refl _),fun y c e=>I.freeC y c (c1 _ _ e),fun p hp=>?_,I.hok.kept hk,?_⟩
 ·have hfr:sc.names.lookup y=some .free:=zn0 cs.nocell hy
  have hm:=ziu hfr
  obtain⟨c,e⟩:=I.ok.has y (.inl (cs.out _ hm rfl))
  exact⟨c,(c2 _ hm rfl).trans e⟩
 ·rcases (hf b hb).2.2.2.1 with z | z
  ·exact I.ok.noex b o e z
  ·exact absurd (Nat.lt_of_lt_of_le (Heap.lt_size (I.ok.bs b o e).1) z) (Nat.lt_irrefl _)
 ·rcases stk b z with z | z
  ·exact(hf b hb).2.1 z
  ·exact(hf b hb).2.2.1 z
 ·rcases Nat.lt_or_ge i own.length with hi | hi
  ·rw[List.getElem?_append_left (by simpa using hi),List.getElem?_replicate] at e2
   simp[hi] at e2
  ·obtain⟨i,rfl⟩:∃k,i=own.length + k:=⟨i - own.length,by omega⟩
   have e1':N[i]?=some y:=by
    rw[List.getElem?_append_right hi] at e1
    simpa using e1
   have e2:(zbg caps σ)[i]?=some (some v):=by
    rw[List.getElem?_append_right (by simp)] at e2
    simpa using e2
   obtain⟨j,hj,hy⟩:=hN i y e1'
   have e2':σ[j]?=some (some v):=by
    simp only[zbg,List.getElem?_map,hj,Option.map_some,Option.some.injEq] at e2
    cases q:σ[j]? with
    | none=>rw[q] at e2; cases e2
    | some o=>rw[q] at e2; simp at e2; rw[e2]
   have hfr:sc.names.lookup y=some .free:=cs.cap y (List.mem_of_getElem? e1')
   have hm:=ziu hfr
   have hce:X.env.scope.names.lookup y=some .cell:=cs.out _ hm rfl
   obtain⟨m0,_,hl⟩:=I.loc
   obtain⟨u,r,l⟩:=hl j y v hy e2' (.inr (.inl hce))
   refine⟨u,r,.inr ⟨zn1 hfr,?_⟩⟩
   rcases l with ⟨k,_⟩ | ⟨_,c,ec,hcell⟩
   ·rw[show X.env.kindOf y=some .cell from hce] at k; cases k
   ·exact⟨c,(c2 _ hm rfl).trans ec,hcell.keeps hk⟩
 ·obtain⟨v,z⟩:=I.cell y c (c1 _ _ e)
  exact⟨v,z.keeps hk⟩
 ·have hp':p∈X.pn++pins:=by simpa using hp
  obtain⟨p1,p2,p3,p4,p5⟩:=I.pin p hp'
  refine⟨hk _ _ p1,p2,Nat.ne_of_lt (Heap.lt_size p1),fun z=>?_,p5⟩
  rcases stk _ z with z | z
  ·exact p3 z
  ·exact p4 z
 ·simp[zbg,hlen]
end
section
variable {X:Cx}{elt iter:Expr}{elts:List Expr}{kk:Nat}{tp:Pos}{pos:Pos}{sc:Scope}{own N:List Str}{caps:List Nat}{wi:TI}{gt:TG}{te:TE}
theorem zpM {use:Option (Value→Sem Unit)}{Qr:Value→Shared→Prop}(hc:X.calm=true)(cs:zdM sc X.env.scope own N)(hN:∀(j:Nat) (y:Str),N[j]?=some y→∃i,caps[j]?=some i∧X.N[i]?=some y)(hlen:caps.length=N.length)
  (hi:PI X (.Tuple elts kk tp) iter wi)(hg:∀cl C s0 H0 fp pn,PG (Cx.comp X sc (own++N) cl C s0 H0 fp pn) (.Tuple elts kk tp) gt)(he:∀cl C s0 H0 fp pn,PE (Cx.comp X sc (own++N) cl C s0 H0 fp pn) elt te)
  (hs:∀y,foldedSetIterable iter X.env y=pure y)
  {pins:List (Addr×Obj)}{s:Shared}{σ:St}{H:Hp}{Q:VK}{p2:Pos}(I:Inv X pins σ H s)(h:zgU own.length caps wi gt te σ H Q)
  (fin:∀D C s',zq9 X pins σ C Q D s'→compPost (model X.prog X.w) X.A X.xe use Qr (.ref D) C (.ok .next) s'):
  wpAny (model X.prog X.w) X.A (comprehension (.ListComp elt [⟨.Tuple elts kk tp,iter,[],0⟩] sc pos) sc X.env p2 (newList []) false (eval iter X.env) use) Qr X.xe s:=by
 obtain⟨cl,k1,k2,k3⟩:=zo4 (sc:=sc) (env:=X.env) fun y hy hf=>I.ok.has y.1 (.inl (cs.out y hy hf))
 refine wpAny_comprehension_free rfl hs k1 cs.kind cs.own (thn (hi pins s σ H _ I h) fun v s1 h1=>thn h1 fun itv s2 h2=>?_)
 obtain⟨it,fp,tn,J,H2,e,I2,T,st2,f2,body⟩:=h2
 subst e
 have hfo:∀b∈fp,b < s2.heap.objs.size:=fun b hb=>by
  obtain⟨o,e,_⟩:=T.obj _ _ st2 b hb
  exact Heap.lt_size e
 have hD:H2 s2.heap.objs.size=none:=I2.hok.fresh (Nat.le_refl _)
 obtain⟨W,⟨m0,w0⟩,turn⟩:=body _ hD
 refine wpAny_newObj_type ?_
 have I3:Inv X pins σ (upd H2 s2.heap.objs.size (.lst [])) { s2 with heap:=s2.heap.push { cls:=.type "list",dict:=none,data:=.seq ([]:List Value).toArray },toks:=s2.toks }:=
  I2.laid (t':=s2.toks) (fun b u e=>Heap.get?_push_of_some _ e) (Nat.le_refl _) ⟨Nat.zero_le _,[],0,.nil,Heap.get?_push_size _ rfl⟩
 generalize hs3:({ s2 with heap:=s2.heap.push { cls:=.type "list",dict:=none,data:=.seq ([]:List Value).toArray },toks:=s2.toks }:Shared)=s3 at I3
 have es3:({ s2 with heap:=s2.heap.push { cls:=.type "list",dict:=none,data:=.seq ([]:List Value).toArray } }:Shared)=s3:=hs3
 try rw[es3]
 have f3:∀b∈fp,zbG X pins (upd H2 s2.heap.objs.size (.lst [])) b:=fun b hb=>⟨by rw[za2 (Nat.ne_of_lt (hfo b hb))]; exact(f2 b hb).1,(f2 b hb).2⟩
 have up3:∀b o,s2.heap.get? b=some o→s3.heap.get? b=some o:=fun b o e=>by rw[← hs3]; exact Heap.get?_push_of_some _ e
 have st3:tn 0 s3.heap:=T.keep _ _ _ st2 fun b _ o e=>up3 b o e
 have hfo3:∀b∈fp,b < s3.heap.objs.size:=fun b hb=>by
  obtain⟨o,e,_⟩:=T.obj _ _ st3 b hb
  exact Heap.lt_size e
 refine wpAny_newFunctionEnv cs.nocell (fun y hy=>by simp at hy) (fun h4 ns4 sb4=>?_) cs.kind
 have hk4:∀b o,s3.heap.get? b=some o→h4.get? b=some o:=fun b o e=>(sb4.2 b (Nat.ne_of_lt (Heap.lt_size e))).trans (Heap.get?_push_of_some _ e)
 have I4:=zrZ (tk:=s3.toks + ([]:List (Str×Value)).length) I3 cs hN hlen k2 k3 f3 hfo3 ns4 hk4
 generalize hs4:({ s3 with heap:=h4,toks:=s3.toks + ([]:List (Str×Value)).length }:Shared)=s4 at I4 ⊢
 have eh4:s4.heap=h4:=by rw[← hs4]
 have st4:tn 0 s4.heap:=by rw[eh4]; exact T.keep _ _ _ st3 fun b _ o e=>hk4 b o e
 have fY:∀ {H':Hp},(∀b∈fp,H' b=none)→∀b∈fp,zbG (Cx.comp X sc (own++N) cl s3.heap.objs.size s3 (upd H2 s2.heap.objs.size (.lst [])) fp (X.pn++pins)) [] H' b:=fun hn b hb=>by
  obtain⟨_,z2,z3,z4,z5,z6⟩:=f3 b hb
  refine⟨hn b hb,Nat.ne_of_lt (hfo3 b hb),fun z=>?_,.inl hb,fun y c e=>z5 y c (k2 _ _ e),fun p hp=>z6 p (by simpa using hp)⟩
  rcases List.mem_cons.mp (I3.stkSub b z) with z | z
  ·exact z2 z
  ·exact z3 z
 have loop:codeAny (model X.prog X.w) X.A (.compLoop (.ListComp elt [⟨.Tuple elts kk tp,iter,[],0⟩] sc pos) 0 (.ref it) (.ref s2.heap.objs.size) (compEnvC sc cl s3.heap.objs.size X.env))
   (compPost (model X.prog X.w) X.A X.xe use Qr (.ref s2.heap.objs.size) s3.heap.objs.size) s4:=by
  refine LCp.codeAny_compLoop_pair (fun n s'=>∃i o H',o.length=own.length∧Inv (Cx.comp X sc (own++N) cl s3.heap.objs.size s3 (upd H2 s2.heap.objs.size (.lst [])) fp (X.pn++pins)) [] (o++zbg caps σ) H' s'∧tn i s'.heap∧(∀b∈fp,H' b=none)∧W i n H') ?_ m0
   ⟨0,_,_,List.length_replicate,I4,st4,fun b hb=>(f3 b hb).1,w0⟩
  rintro n s5 ⟨i,o,H5,ho,I5,st5,fr5,w5⟩
  rcases turn i n H5 w5 with ⟨stop,q⟩ | ⟨go,step⟩
  ·refine thn (T.done (Cx.comp X sc (own++N) cl s3.heap.objs.size s3 (upd H2 s2.heap.objs.size (.lst [])) fp (X.pn++pins)) rfl rfl rfl hc i [] s5 _ H5 _ I5 (fY fr5) st5 stop) fun r s6 ⟨hr,I6⟩=>?_
   subst hr
   refine fin _ _ _ ⟨⟨H5,I3.call' I6.os I6.base I6.hok I6.bare (fun b hb=>?_),q,I6.free⟩,?_,Nat.ne_of_gt I3.lt,I3.sz,fun y c e z=>?_,fun p hp z=>?_⟩
   ·obtain⟨_,z2,z3,z4,z5,z6⟩:=f3 b hb
    exact⟨z4,z2,z5,z6⟩
   ·obtain⟨m,hm,_⟩:=I6.loc
    exact⟨m,hm⟩
   ·obtain⟨v,hv⟩:=I3.cell y c e
    exact absurd (z ▸ hv.lt) (Nat.lt_irrefl _)
   ·exact absurd (z ▸ Heap.lt_size (I3.pin p hp).1) (Nat.lt_irrefl _)
  ·refine thn (T.item (Cx.comp X sc (own++N) cl s3.heap.objs.size s3 (upd H2 s2.heap.objs.size (.lst [])) fp (X.pn++pins)) rfl rfl rfl hc i [] s5 _ H5 _ I5 (fY fr5) st5 go) fun r s6 ⟨u,hr,h6⟩=>?_
   subst hr
   refine wpAny_mono h6 (fun _ s7 ⟨y,H7,I7,r7,y7,st7,fr7⟩=>?_) fun _ _ z=>z
   have I7':=I7.pinned (fY fr7) (T.obj _ _ st7)
   refine wpAny_mono (hg _ _ _ _ _ _ _ s7 _ H7 y u _ I7' r7 (step y H7 y7 o ho)) (fun _ s8 ⟨σ8,H8,I8,⟨o8,ho8,e8⟩,q8⟩=>?_) fun _ _ z=>z.elim
   subst e8
   have stay:∀ {H':Hp} {s':Shared},Inv (Cx.comp X sc (own++N) cl s3.heap.objs.size s3 (upd H2 s2.heap.objs.size (.lst [])) fp (X.pn++pins)) ([]++zfJ fp s7.heap) (o8++zbg caps σ) H' s'→∀m',m' < n→W (i + 1) m' H'→
     ∃m,m < n∧∃i o H',o.length=own.length∧Inv (Cx.comp X sc (own++N) cl s3.heap.objs.size s3 (upd H2 s2.heap.objs.size (.lst [])) fp (X.pn++pins)) [] (o++zbg caps σ) H' s'∧tn i s'.heap∧(∀b∈fp,H' b=none)∧W i m H':=fun {H' s'} J m' hm w'=>by
    refine⟨m',hm,i + 1,o8,H',ho8,J.unpinned,T.keep _ _ _ st7 fun b hb o e=>(J.pin (b,o) (List.mem_append_right _ (List.mem_append_right _ (zeH hb e)))).1,fun b hb=>?_,w'⟩
    obtain⟨o,e,d⟩:=T.obj _ _ st7 b hb
    exact(J.pin (b,o) (List.mem_append_right _ (List.mem_append_right _ (zeH hb e)))).2.1
   refine wpAny_mono (he _ _ _ _ _ _ _ s8 _ H8 _ I8 q8) (fun u2 s10 ⟨z,H10,I10,r10,q10⟩=>?_) fun _ _ z=>z.elim
   obtain⟨ys,hD10,hlt,m',hm,w10⟩:=q10
   refine wpAny_mono (zne (X:=(Cx.comp X sc (own++N) cl s3.heap.objs.size s3 (upd H2 s2.heap.objs.size (.lst [])) fp (X.pn++pins))) _ s10 _ H10 (.ref s2.heap.objs.size) [z] (.ref s2.heap.objs.size) [u2] (fun _ H'=>H'=upd H10 s2.heap.objs.size (.lst (ys++[z]))) I10 rfl (.cons r10 .nil) ⟨_,ys,z,rfl,rfl,hD10,hlt,rfl⟩) (fun _ s11 ⟨_,H11,I11,_,e11⟩=>?_) fun _ _ z=>z.elim
   subst e11
   exact stay I11 m' hm w10
 exact codeAny_compStart_list loop (T.self _ 0 s4 _ _ st4 loop)
theorem zra (hc:X.calm=true)(cs:zdM sc X.env.scope own N)(hN:caps.map (fun i=>X.N[i]?)=N.map some)
  (hi:PI X (.Tuple elts kk tp) iter wi)(hg:∀cl C s0 H0 fp pn,PG (Cx.comp X sc (own++N) cl C s0 H0 fp pn) (.Tuple elts kk tp) gt)(he:∀cl C s0 H0 fp pn,PE (Cx.comp X sc (own++N) cl C s0 H0 fp pn) elt te)
  (hs:∀y,foldedSetIterable iter X.env y=pure y:=by intro _; rfl):PE X (.ListComp elt [⟨.Tuple elts kk tp,iter,[],0⟩] sc pos) (zgU own.length caps wi gt te):=by
 intro pins s σ H Q I h
 rw[eval_ListComp]
 refine zpM (use:=none) hc cs (zdV hN).1 (zdV hN).2 hi hg he hs I h fun D C s' f=>?_
 obtain⟨⟨H',I',q,hC⟩,⟨m,ns⟩,l,o,c,p⟩:=f
 exact⟨m,ns,fun h' sb=>⟨.ref D,H',I'.turned (t':=s'.toks) (fun b ob hb e=>(sb.2 b hb).trans e) hC l (.inr o) c p,rfl,q⟩⟩
end
end L3

namespace L3
open PySem PySem.Spec PyProof.Rows L2
section
variable {X:Cx}{Z:Zx}{elt:Expr}{pos:Pos}{sc ar:Scope}{N:List Str}{caps:List Nat}
def zkK (caps:List Nat)(te:TDE)(k:Nat)(dl:Ev)(d1 d2:D)(S:Sto)(nx:Sto→Prop):Prop:=
 te (some d1::some d2::zbz caps dl) S fun y S2=>match S2[k]? with
  | some (.lst ys)=>ys.length < 1000∧nx (S2.set k (.lst (ys++[y])))
  | _=>False
@[irreducible] def zf4 (caps:List Nat)(ta:TDA)(te:TDE):TDE:=fun dl S Q=>ta dl S fun ds S1=>match ds with
 | [.ref n]=>(lAt S1 n).isSome=true∧∃W:Nat→Nat→Sto→Prop,(∃m,W 0 m (S1++[.lst []]))∧∀k m S2,W k m S2→match lAt S2 n with
  | some o=>match (zai o)[k]? with
   | some y=>zkK caps te S1.length dl (.int (k:Int)) y S2 fun S3=>∃m',m' < m∧W (k + 1) m' S3
   | none=>k=(zai o).length∧Q (.ref S1.length) S2
  | none=>False
 | _=>False
theorem zqY {r:List Addr}{H:Hp}{dl:Ev}{σ:St}{d1 d2:D}{v1 v2:V}(h:Rs r H dl σ)(p1:Rp r H d1 v1)(p2:Rp r H d2 v2):Rs r H (some d1::some d2::zbz caps dl) (some v1::some v2::zbg caps σ):=by
 have z:=zoO (caps:=caps) h p2
 refine⟨by have:=z.1; simp only[List.length_cons] at this ⊢; omega,fun i e hi=>?_⟩
 cases i with
 | zero=>simp at hi; subst hi; exact⟨v1,rfl,p1⟩
 | succ i=>exact z.2 i e (by simpa using hi)
theorem zxb {ta:TDA}{te:TDE}{σ:St}{H:Hp}{Qv:VK}(h:up X.K Z (zf4 caps ta te) σ H Qv):
  zgU 2 caps (zpL X.K (upA X.K Z ta)) (zfg X.K 2 (zex [0,1])) (up X.K Z0 te) σ H Qv:=by
 obtain⟨r,dl,S,Q,rs,rel,h,ret⟩:=h
 unfold zf4 at h
 refine⟨r,dl,S,_,rs,rel,h,fun vs H1 r1 ds S1 x1 rel1 p1 q1=>?_⟩
 split at q1
 ·rename_i n
  obtain⟨v,vs',rfl,p2,p3⟩:=p1.uncons
  have z:=p3.unnil
  subst z
  cases p2 with
  | @ref n a hr=>
   obtain⟨hsome,W,⟨m0,w0⟩,turn⟩:=q1
   obtain⟨o1,eo1⟩:=Option.isSome_iff_exists.mp hsome
   obtain⟨xs1,sq1,_⟩:=zc6 (r:=r1) hr rel1.b eo1
   refine⟨a,rfl,⟨xs1,sq1⟩,fun D0 hD=>?_⟩
   obtain⟨rel2,x2⟩:=rel1.b.push (ds:=[]) (xs:=[]) hD Rps.nil
   refine⟨fun k m H'=>∃r' S',Ext (r1++[D0]) r' (upd H1 D0 (.lst [])) H'∧zaU X.K r' S' H'∧W k m S',⟨m0,_,_,Ext.refl,rel2,w0⟩,?_⟩
   rintro k m H2 ⟨r2,S2,x3,rb2,w2⟩
   have ha2:r2[S1.length]?=some D0:=x3.adr _ _ (zh8 rel1.len)
   have hr2:r2[n]?=some a:=(x2.trans x3).adr _ _ hr
   have q:=turn k m S2 w2
   split at q
   ·rename_i o eo
    obtain⟨xs,sq,pr⟩:=zc6 (r:=r2) hr2 rb2 eo
    split at q
    ·rename_i y ey
     obtain⟨v,hv,pv⟩:=pr.get ey
     refine .inr ⟨⟨xs,v,sq,hv⟩,fun v' H' y' o8 ho8=>?_⟩
     obtain⟨T,w,rfl,hT,rfl,hw⟩:=y'
     have ew:w=v:=by
      have z:=hw xs sq
      rw[hv] at z; exact(Option.some.inj z).symm
     subst ew
     obtain⟨c1,c2,rfl⟩:∃c1 c2,o8=[c1,c2]:=by
      match o8,ho8 with
      | [c1,c2],_=>exact⟨c1,c2,rfl⟩
     have x4:Ext r2 r2 H2 (upd H2 T (.tup [.int (k:Int),w])):=zoe hT
     have rb3:=rb2.same (zc4 (o:=.tup [.int (k:Int),w]) hT)
     have rs3:=rs.ext (x1.trans (x2.trans (x3.trans x4)))
     refine⟨T,[.int (k:Int),w],rfl,SqT.of zcC,rfl,rfl,⟨[some (.int (k:Int)),some w],rfl,rfl⟩,?_⟩
     have rsY:=zqY (caps:=caps) rs3 (.int (k:Int)) (pv.ext x4)
     refine⟨r2,_,S2,_,rsY,⟨rb3,fun _ _ _ _ _ _ _ _ _ z=>z.elim⟩,q,fun z H4 r4 dz S4 x6 rel4 p4 q4=>?_⟩
     split at q4
     ·rename_i ys eys
      obtain⟨hl,m',hm,q4⟩:=q4
      have ha4:r4[S1.length]?=some D0:=x6.adr _ _ ha2
      obtain⟨zs,hD4,pz⟩:=rel4.b.ob _ _ _ ha4 eys
      obtain⟨rel5,x7⟩:=rel4.b.set ha4 eys (pz.snoc p4)
      exact⟨zs,hD4,by rw[← pz.1]; exact zhm (Nat.le_of_lt hl),m',hm,r4,_,x3.trans (x4.trans (x6.trans x7)),rel5,q4⟩
     ·exact q4.elim
    ·obtain⟨hk,q⟩:=q
     exact .inl ⟨⟨xs,sq,by rw[← pr.1]; exact hk.symm⟩,ret _ H2 r2 _ S2 (x1.trans (x2.trans x3)) ⟨rb2,rel.xw.ext (x1.trans (x2.trans x3))⟩ (.ref ha2) q⟩
   ·exact q.elim
 ·exact q1.elim
theorem zfa {ta:TDA}{te:TDE}{x1 x2:Str}{p1 p2 p pos2 tp:Pos}{kk:Nat}{a:Expr}(har:X.env.scope=ar)(hc:X.calm=true)(cs:zdM sc ar [x1,x2] N)(hl1:sc.names.lookup x1=some .local)(hl2:sc.names.lookup x2=some .local)
  (hN:caps.map (fun i=>X.N[i]?)=N.map some)(hnd:([x1,x2]++N).Nodup)(hg:Gl X "enumerate")(hm:X.mg "enumerate"=none)(hv:bootBuiltins "enumerate"=some (.type "enumerate"))(ha:PDA X Z [a] ta)
  (he:∀cl C s0 H0 fp pn,PD (Cx.comp X sc ([x1,x2]++N) cl C s0 H0 fp pn) Z0 elt te)
  (hse:starEach [a] X.env=[(false,eval a X.env)]:=by rfl)(hs:∀y,foldedSetIterable (.Call (.Name "enumerate" p) [a] [] pos2) X.env y=pure y:=by intro _; rfl):
  PD X Z (.ListComp elt [⟨.Tuple [.Name x1 p1,.Name x2 p2] kk tp,.Call (.Name "enumerate" p) [a] [] pos2,[],0⟩] sc pos) (zf4 caps ta te):=by
 subst har
 refine za8 (zra hc cs hN (gt:=zfg X.K 2 (zex [0,1])) (te:=up X.K Z0 te) (ztl hg hm hv ha hse) (fun cl C s0 H0 fp pn=>?_) he hs) fun _ _ _ h=>zxb h
 have l1:(Cx.comp X sc ([x1,x2]++N) cl C s0 H0 fp pn).env.scope.names.lookup x1=some .local:=lookup_relabel_local hl1
 have l2:(Cx.comp X sc ([x1,x2]++N) cl C s0 H0 fp pn).env.scope.names.lookup x2=some .local:=lookup_relabel_local hl2
 exact zl8 hc (zgt hnd (.cons rfl (.inl l1) (.inr l1) (.cons rfl (.inl l2) (.inr l2) .nil))) rfl rfl
end
section
variable {X:Cx}{Z:Zx}{pos:Pos}
def zlo:WC:=fun ds S Q=>match ds with
 | [.ref n]=>match lAt S n with
  | some o=>match zci (zai o) with
   | some ns=>Q (.int ns.sum) S
   | none=>False
  | none=>False
 | _=>False
theorem zgL (hc:X.calm=true):zbd X (.builtin "sum") (upC X.K Z zlo):=by
 intro pins s σ H xs us Qv I rv h
 obtain⟨r,S,ds,Q,rel,ps,q,ret⟩:=h
 unfold zlo at q
 split at q
 ·rename_i n
  obtain⟨v,vs,rfl,p1,p2⟩:=ps.uncons
  have z:=p2.unnil
  subst z
  split at q
  ·rename_i o eo
   split at q
   ·rename_i ns en
    cases p1 with
    | ref h1=>
     obtain⟨eo,eL⟩:=zbt eo
     obtain⟨a,ha,ob⟩:=rel.at eo
     rw[h1] at ha; cases ha
     obtain⟨ys,sq,pr⟩:=ob.list eL
     obtain⟨u,rfl,ru⟩:=zdl rv
     cases ru
     obtain⟨its,ri,pl,hz⟩:=I.list sq
     obtain⟨zs,hz1,hz2⟩:=zjC en pr ri
     have isl:=pl.isList
     rw[hz1] at isl
     refine sum_intListG (I.ok.hd hc) isl fun h' tk t' hk=>?_
     have e:preSum (numAt zs.toArray) zs.toArray.size=ns.sum:=by
      rw[preSum_eq,List.take_of_length_le (by simp)]
      show (zs.map (·.1)).sum=ns.sum
      rw[hz2]
     rw[e]
     exact⟨.int _,H,I.kept hk,⟨_,rfl⟩,ret _ _ _ _ _ Ext.refl rel (.int _) q⟩
   ·exact q.elim
  ·exact q.elim
 ·exact q.elim
end
section
variable {X:Cx}{Z:Zx}
theorem ztG {A:Around}{k n m:Nat}{a a':Addr}{o o':Ob}{b:Bool}{pins:List (Addr×Obj)}{σ:St}{H:Hp}{s:Shared}{r:List Addr}{S:Sto}(I:Inv X pins σ H s)(rel:Rel X.K Z r S H)(hn:r[n]?=some a)(hm:r[m]?=some a')(eo:lAt S n=some o)(eo':lAt S m=some o')
  (e:eqL (eqN k) (zai o) (zai o')=some b)(hu:A.units + 1 + k < cLine):SeqAt.RcAt A s (.ref a) (.ref a') b:=by
 obtain⟨eo,eL⟩:=zbt eo
 obtain⟨eo',eL'⟩:=zbt eo'
 obtain⟨z,hz,ob⟩:=rel.at eo
 rw[hn] at hz; cases hz
 obtain⟨z,hz,ob'⟩:=rel.at eo'
 rw[hm] at hz; cases hz
 obtain⟨xs,sq,pr⟩:=ob.list eL
 obtain⟨ys,sq',pr'⟩:=ob'.list eL'
 obtain⟨is,ri,pl,_⟩:=I.list sq
 obtain⟨js,rj,pl',_⟩:=I.list sq'
 obtain⟨g1,g2⟩:=zeD (A:=A.in1) (zdH k) I (by show A.units + 1 + k < _; omega) pr pr' ri rj e
 by_cases hs:is.toArray.size=js.toArray.size
 ·have q:=SeqAt.RcAt.lists (A:=A) pl.isList pl'.isList hs (by omega) g1
  have e2:(List.range is.toArray.size).all (zcm (eqN k) (zai o) (zai o'))=b:=by
   rw[← g2,← hs,Nat.min_self]; simp
  rw[e2] at q
  exact q
 ·have q:=SeqAt.RcAt.lists_lengths (A:=A) pl.isList pl'.isList (by simpa using hs) (by omega)
  have e2:b=false:=by
   rw[← g2,show (is.toArray.size == js.toArray.size)=false by simpa using hs,Bool.and_false]
  rw[e2]
  exact q

def zkL:W2:=fun x y S Q=>match x,y with
 | .ref n,.ref m=>(∃ds es,S[n]?=some (.lst ds)∧S[m]?=some (.lst es)∧ds.length=es.length∧∀(k:Nat) (d e:D),ds[k]?=some d→es[k]?=some e→∃a b xs ys,d=.ref a∧e=.ref b∧S[a]?=some (.lst xs)∧S[b]?=some (.lst ys)∧eqL (eqN 1) xs ys=some true)∧Q (.bl false) S
 | _,_=>False
theorem zr2 {j:Nat}(hr:zaJ j X.A):OpR X (compareOp .NotEq) (upO X.K Z zkL):=by
 intro pins s σ H x y v u Qv I rx ry h
 obtain⟨r,S,dx,dy,Q,rel,px,py,q,ret⟩:=h
 have hun:=hr.un
 unfold zkL at q
 split at q
 ·rename_i n m
  obtain⟨⟨ds,es,e1,e2,hl,hall⟩,q⟩:=q
  cases px with
  | @ref n a hn=>
   cases py with
   | @ref m a' hm=>
    cases rx
    cases ry
    obtain⟨z,hz,ob⟩:=rel.at e1
    rw[hn] at hz; cases hz
    obtain⟨z,hz,ob'⟩:=rel.at e2
    rw[hm] at hz; cases hz
    obtain⟨xs,sq,pr⟩:=ob.list rfl
    obtain⟨ys,sq',pr'⟩:=ob'.list rfl
    obtain⟨is,ri,pl,_⟩:=I.list sq
    obtain⟨js,rj,pl',_⟩:=I.list sq'
    have l1:ds.length=xs.length:=pr.1
    have l2:es.length=ys.length:=pr'.1
    have l3:=ri.length
    have l4:=rj.length
    have main:∀(k:Nat) (h1:k < is.toArray.size) (h2:k < js.toArray.size),SeqAt.EqAt X.A.in1 s is.toArray[k] js.toArray[k] true:=fun k h1 h2=>by
     have k1:k < is.length:=by simpa using h1
     have k2:k < js.length:=by simpa using h2
     obtain⟨d,hd,pd⟩:=pr.get' (List.getElem?_eq_getElem (l:=xs) (i:=k) (by omega))
     obtain⟨e,he,pe⟩:=pr'.get' (List.getElem?_eq_getElem (l:=ys) (i:=k) (by omega))
     obtain⟨a1,b1,xs1,ys1,rfl,rfl,s1,s2,eq⟩:=hall k d e hd he
     obtain⟨u1,hu1,ru1⟩:=ri.get (List.getElem?_eq_getElem (l:=xs) (i:=k) (by omega))
     obtain⟨u2,hu2,ru2⟩:=rj.get (List.getElem?_eq_getElem (l:=ys) (i:=k) (by omega))
     have z1:is.toArray[k]=u1:=by
      rw[List.getElem?_eq_getElem k1] at hu1
      simpa using Option.some.inj hu1
     have z2:js.toArray[k]=u2:=by
      rw[List.getElem?_eq_getElem k2] at hu2
      simpa using Option.some.inj hu2
     rw[z1,z2]
     generalize xs[k]'(by omega)=v1 at pd ru1
     generalize ys[k]'(by omega)=v2 at pe ru2
     cases pd with
     | @ref _ p hp=>
      cases pe with
      | @ref _ p' hp'=>
       cases ru1
       cases ru2
       by_cases hne:p=p'
       ·subst hne; exact SeqAt.EqAt.same _
       ·exact SeqAt.EqAt.of_refs hne (ztG (A:=X.A.in1) I rel hp hp' (zaC s1 rfl) (zaC s2 rfl) eq (by show X.A.units + 1 + 1 + 1 < _; omega))
    have q2:=SeqAt.RcNeAt.lists (A:=X.A) (e:=fun _=>true) pl.isList pl'.isList (by simp; omega) (by omega) main
    have e3:(!(List.range is.toArray.size).all fun _=>true)=false:=by simp
    rw[e3] at q2
    exact q2 X.prog X.w X.xe _ ⟨.bl false,H,I,rfl,ret _ _ _ _ _ Ext.refl rel (.bl false) q⟩
 ·exact q.elim
end
end L3


namespace L3
open PySem PySem.Spec PyProof.Rows L2
section
variable {X:Cx}{Z:Zx}{pos:Pos}
theorem zk5:∀ {us:List Value} {ms:List Int},IntsAre us ms→zat (ms.map V.int) us
 | _,_,.nil=>.nil
 | _,_,.cons n t h=>.cons ⟨t,rfl⟩ (zk5 h)
def zkN:W2:=fun x y S Q=>match x,y with
 | .ref n,.int k=>match S[n]? with
  | some (.lst xs)=>(0≤k∧k≤1000∧xs.length * k.toNat≤1000)∧Q (.ref S.length) (S++[.lst (List.replicate k.toNat xs).flatten])
  | _=>False
 | _,_=>False
theorem Rps.rep {r:List Addr}{H:Hp}{ds:List D}{xs:List V}(h:Rps r H ds xs):∀k:Nat,Rps r H (List.replicate k ds).flatten (List.replicate k xs).flatten
 | 0=>Rps.nil
 | k + 1=>by
  simp only[List.replicate_succ,List.flatten_cons]
  exact h.app (Rps.rep h k)
theorem ztD:OpR X (binaryOp .Mult) (upO X.K Z (zbE zkN)):=by
 rw[zbY]
 exact zek zve fun x y H Qv ⟨r,S,dx,dy,Q,rel,px,py,q,ret⟩=>by
  unfold zkN at q
  split at q
  ·rename_i n k
   split at q
   ·rename_i xs e1
    obtain⟨⟨h0,h1,hl⟩,q⟩:=q
    cases py
    cases px with
    | @ref _ a hn=>
     obtain⟨z,hz,ob⟩:=rel.at e1
     rw[hn] at hz; cases hz
     obtain⟨us,g1,p1⟩:=ob
     refine⟨a,k,us,rfl,rfl,g1,by omega,by omega,by rw[← p1.1]; exact zfM hl,fun p hp=>?_⟩
     obtain⟨rel4,x⟩:=rel.push hp (p1.rep k.toNat)
     exact ret _ _ _ (.ref S.length) _ x rel4 (zem rel.len) q
   ·exact q.elim
  ·exact q.elim
theorem zxc {n:Nat}{k:Int}{S:Sto}{Q:DK}{xs:List D}(h1:S[n]?=some (.lst xs))(hk:0≤k∧k≤1000)(hl:xs.length * k.toNat≤1000)(hq:Q (.ref S.length) (S++[.lst (List.replicate k.toNat xs).flatten])):zbE zkN (.ref n) (.int k) S Q:=by
 rw[zbY]
 unfold zkN
 simp only[h1]
 exact⟨⟨hk.1,hk.2,hl⟩,hq⟩
end
section
variable {X:Cx}{Z:Zx}{elt:Expr}{pos:Pos}{sc ar:Scope}{N:List Str}{caps:List Nat}
@[irreducible] def ze7 (caps:List Nat)(ta:TDA)(te:TDE):TDE:=fun dl S Q=>ta dl S fun ds S1=>match ds with
 | [.ref n,.ref n']=>((lAt S1 n).isSome=true∧(lAt S1 n').isSome=true)∧∃W:Nat→Nat→Sto→Prop,(∃m,W 0 m (S1++[.lst []]))∧∀k m S2,W k m S2→match lAt S2 n,lAt S2 n' with
  | some o,some o'=>match (zai o)[k]?,(zai o')[k]? with
   | some x,some y=>zkK caps te S1.length dl x y S2 fun S3=>∃m',m' < m∧W (k + 1) m' S3
   | _,_=>k=min (zai o).length (zai o').length∧Q (.ref S1.length) S2
  | _,_=>False
 | _=>False
theorem zoP {ta:TDA}{te:TDE}{σ:St}{H:Hp}{Qv:VK}(h:up X.K Z (ze7 caps ta te) σ H Qv):
  zgU 2 caps (iZip X.K (upA X.K Z ta)) (zfg X.K 2 (zex [0,1])) (up X.K Z0 te) σ H Qv:=by
 obtain⟨r,dl,S,Q,rs,rel,h,ret⟩:=h
 unfold ze7 at h
 refine⟨r,dl,S,_,rs,rel,h,fun vs H1 r1 ds S1 x1 rel1 p1 q1=>?_⟩
 split at q1
 ·rename_i n n'
  obtain⟨v,vs',rfl,p2,p3⟩:=p1.uncons
  obtain⟨v',vs2,rfl,p4,p5⟩:=p3.uncons
  have z:=p5.unnil
  subst z
  cases p2 with
  | @ref n a hr=>
   cases p4 with
   | @ref n' a' hr'=>
    obtain⟨⟨hsome,hsome'⟩,W,⟨m0,w0⟩,turn⟩:=q1
    obtain⟨o1,eo1⟩:=Option.isSome_iff_exists.mp hsome
    obtain⟨o2,eo2⟩:=Option.isSome_iff_exists.mp hsome'
    obtain⟨xs1,sq1,_⟩:=zc6 (r:=r1) hr rel1.b eo1
    obtain⟨ys1,sq2,_⟩:=zc6 (r:=r1) hr' rel1.b eo2
    refine⟨a,a',rfl,⟨xs1,sq1⟩,⟨ys1,sq2⟩,fun D0 hD=>?_⟩
    obtain⟨rel2,x2⟩:=rel1.b.push (ds:=[]) (xs:=[]) hD Rps.nil
    refine⟨fun k m H'=>∃r' S',Ext (r1++[D0]) r' (upd H1 D0 (.lst [])) H'∧zaU X.K r' S' H'∧W k m S',⟨m0,_,_,Ext.refl,rel2,w0⟩,?_⟩
    rintro k m H2 ⟨r2,S2,x3,rb2,w2⟩
    have ha2:r2[S1.length]?=some D0:=x3.adr _ _ (zh8 rel1.len)
    have hr2:r2[n]?=some a:=(x2.trans x3).adr _ _ hr
    have hr2':r2[n']?=some a':=(x2.trans x3).adr _ _ hr'
    have q:=turn k m S2 w2
    split at q
    ·rename_i o o' eo eo'
     obtain⟨xs,sq,pr⟩:=zc6 (r:=r2) hr2 rb2 eo
     obtain⟨ys,sq',pr'⟩:=zc6 (r:=r2) hr2' rb2 eo'
     split at q
     ·rename_i y y2 ey ey2
      obtain⟨v,hv,pv⟩:=pr.get ey
      obtain⟨u,hvu,pu⟩:=pr'.get ey2
      refine .inr ⟨⟨xs,ys,v,u,sq,sq',hv,hvu⟩,fun v' H' y' o8 ho8=>?_⟩
      obtain⟨T,w,w2',rfl,hT,rfl,hw,hw2⟩:=y'
      have ew:w=v:=by
       have z:=hw xs sq
       rw[hv] at z; exact(Option.some.inj z).symm
      have ew2:w2'=u:=by
       have z:=hw2 ys sq'
       rw[hvu] at z; exact(Option.some.inj z).symm
      subst ew ew2
      obtain⟨c1,c2,rfl⟩:∃c1 c2,o8=[c1,c2]:=by
       match o8,ho8 with
       | [c1,c2],_=>exact⟨c1,c2,rfl⟩
      have x4:Ext r2 r2 H2 (upd H2 T (.tup [w,w2'])):=zoe hT
      have rb3:=rb2.same (zc4 (o:=.tup [w,w2']) hT)
      have rs3:=rs.ext (x1.trans (x2.trans (x3.trans x4)))
      refine⟨T,[w,w2'],rfl,SqT.of zcC,rfl,rfl,⟨[some w,some w2'],rfl,rfl⟩,?_⟩
      have rsY:=zqY (caps:=caps) rs3 (pv.ext x4) (pu.ext x4)
      refine⟨r2,_,S2,_,rsY,⟨rb3,fun _ _ _ _ _ _ _ _ _ z=>z.elim⟩,q,fun z H4 r4 dz S4 x6 rel4 p4 q4=>?_⟩
      split at q4
      ·rename_i ys eys
       obtain⟨hl,m',hm,q4⟩:=q4
       have ha4:r4[S1.length]?=some D0:=x6.adr _ _ ha2
       obtain⟨zs,hD4,pz⟩:=rel4.b.ob _ _ _ ha4 eys
       obtain⟨rel5,x7⟩:=rel4.b.set ha4 eys (pz.snoc p4)
       exact⟨zs,hD4,by rw[← pz.1]; exact zhm (Nat.le_of_lt hl),m',hm,r4,_,x3.trans (x4.trans (x6.trans x7)),rel5,q4⟩
      ·exact q4.elim
     ·obtain⟨hk,q⟩:=q
      exact .inl ⟨⟨xs,ys,sq,sq',by rw[← pr.1,← pr'.1]; exact hk.symm⟩,ret _ H2 r2 _ S2 (x1.trans (x2.trans x3)) ⟨rb2,rel.xw.ext (x1.trans (x2.trans x3))⟩ (.ref ha2) q⟩
    ·exact q.elim
 ·exact q1.elim
theorem zk9 {ta:TDA}{te:TDE}{x1 x2:Str}{p1 p2 p pos2 tp:Pos}{kk:Nat}{a b:Expr}(har:X.env.scope=ar)(hc:X.calm=true)(cs:zdM sc ar [x1,x2] N)(hl1:sc.names.lookup x1=some .local)(hl2:sc.names.lookup x2=some .local)
  (hN:caps.map (fun i=>X.N[i]?)=N.map some)(hnd:([x1,x2]++N).Nodup)(hg:Gl X "zip")(hm:X.mg "zip"=none)(hv:bootBuiltins "zip"=some (.type "zip"))(ha:PDA X Z [a,b] ta)
  (he:∀cl C s0 H0 fp pn,PD (Cx.comp X sc ([x1,x2]++N) cl C s0 H0 fp pn) Z0 elt te)
  (hse:starEach [a,b] X.env=[(false,eval a X.env),(false,eval b X.env)]:=by rfl)(hse2:starEach [b] X.env=[(false,eval b X.env)]:=by rfl)(hs:∀y,foldedSetIterable (.Call (.Name "zip" p) [a,b] [] pos2) X.env y=pure y:=by intro _; rfl):
  PD X Z (.ListComp elt [⟨.Tuple [.Name x1 p1,.Name x2 p2] kk tp,.Call (.Name "zip" p) [a,b] [] pos2,[],0⟩] sc pos) (ze7 caps ta te):=by
 subst har
 refine za8 (zra hc cs hN (gt:=zfg X.K 2 (zex [0,1])) (te:=up X.K Z0 te) (zn3 hg hm hv ha hse hse2) (fun cl C s0 H0 fp pn=>?_) he hs) fun _ _ _ h=>zoP h
 have l1:(Cx.comp X sc ([x1,x2]++N) cl C s0 H0 fp pn).env.scope.names.lookup x1=some .local:=lookup_relabel_local hl1
 have l2:(Cx.comp X sc ([x1,x2]++N) cl C s0 H0 fp pn).env.scope.names.lookup x2=some .local:=lookup_relabel_local hl2
 exact zl8 hc (zgt hnd (.cons rfl (.inl l1) (.inr l1) (.cons rfl (.inl l2) (.inr l2) .nil))) rfl rfl
end
end L3

namespace L3
open PySem PySem.Spec PyProof.Rows L2
section
variable {X:Cx}{Z:Zx}{pos:Pos}
def dPar (i j:Nat)(ta:TDA):TDS:=fun E dl S=>ta dl S fun ds S1=>match ds with
 | [v,w]=>E.nx ((dl.set i (some v)).set j (some w)) S1
 | _=>False
theorem zrt {i j:Nat}{x y:Str}{a b:Expr}{ta:TDA}{px py pt:Pos}{kt k2 pt2}(hc:X.calm=true)(hN:X.N.Nodup)(hi:X.N[i]?=some x)(hj:X.N[j]?=some y)(hij:i≠j)
  (hx:X.env.scope.names.lookup x=some .local)(hy:X.env.scope.names.lookup y=some .local)(ha:PDA X Z [a,b] ta)
  (hw:swappedStores [.Tuple [.Name x px,.Name y py] kt pt] (.Tuple [a,b] k2 pt2) X.env=pure (some [x,y]):=by rfl)
  (hs:swapsWithSole [.Tuple [.Name x px,.Name y py] kt pt] (.Tuple [a,b] k2 pt2) pos.line X.env=pure false:=by rfl):
  PDS X Z (.Assign [.Tuple [.Name x px,.Name y py] kt pt] (.Tuple [a,b] k2 pt2) pos) (dPar i j ta):=
 zb7 (zxg hc hN hi hj hij hx hy ha hw hs) fun F σ H ⟨r,dl,S,E,rs,rel,h,ret⟩=>by
  refine⟨r,dl,S,_,rs,rel,h,fun vs H1 r1 ds S1 x1 rel1 p1 q1=>?_⟩
  split at q1
  ·rename_i v w
   obtain⟨v1,vs1,rfl,p2,p3⟩:=p1.uncons
   obtain⟨v2,vs2,rfl,p4,p5⟩:=p3.uncons
   have z:=p5.unnil
   subst z
   exact⟨v1,v2,rfl,ret.nx _ H1 r1 _ S1 x1 (((rs.ext x1).set i p2).set j p4) rel1 q1⟩
  ·exact q1.elim
end
end L3

namespace L3
open PySem PySem.Spec PyProof.Rows L2
section
variable {n:Nat}{I:Addr}{fp wr:List Addr}{P:Nat→Value→Prop}{St:Nat→Shared→Prop}{prog:Program}{w:World}{A:Around}{s:Shared}{E:Value→Shared→Prop}{G:Array GenState→Array GenState→Prop}
end
section
variable {X:Cx}{Z:Zx}{pos:Pos}
end
end L3

namespace L3
open PySem PySem.Spec PyProof.Rows L2
section
variable {X:Cx}{Z:Zx}{pos:Pos}
theorem Rps.ins {r:List Addr}{H:Hp}{y:D}{w:V}(hy:Rp r H y w):∀ {ds:List D} {xs:List V} (k:Nat),Rps r H ds xs→Rps r H (ds.take k++y::ds.drop k) (xs.take k++w::xs.drop k)
 | [],xs,k,h=>by
  have z:=h.unnil
  subst z
  simpa using Rps.cons hy h
 | d::ds,xs,0,h=>Rps.cons hy h
 | d::ds,xs,k + 1,h=>by
  obtain⟨v,vs,rfl,p1,p2⟩:=h.uncons
  exact Rps.cons p1 (Rps.ins hy k p2)
end
end L3

namespace L3
open PySem PySem.Spec PyProof.Rows L2
section
variable {X:Cx}{Z:Zx}{elt iter:Expr}{elts:List Expr}{kk:Nat}{tp pos:Pos}{sc ar:Scope}{own N:List Str}{caps:List Nat}{wi:TI}{gt:TG}
theorem zwO {te:TE}{i:Nat}{y:Str}{py spos:Pos}(hc:X.calm=true)(cs:zdM sc X.env.scope own N)(hN:caps.map (fun i=>X.N[i]?)=N.map some)
  (hi:PI X (.Tuple elts kk tp) iter wi)(hg:∀cl C s0 H0 fp pn,PG (Cx.comp X sc (own++N) cl C s0 H0 fp pn) (.Tuple elts kk tp) gt)(he:∀cl C s0 H0 fp pn,PE (Cx.comp X sc (own++N) cl C s0 H0 fp pn) elt te)
  (hNd:X.N.Nodup)(hy:X.N[i]?=some y)(hl:X.env.scope.names.lookup y=some .local)
  (hsw:swapsWith (.ListComp elt [⟨.Tuple elts kk tp,iter,[],0⟩] sc pos) (some (.Name y py)) spos.line X.env=pure true)
  (hs:∀y,foldedSetIterable iter X.env y=pure y:=by intro _; rfl):PS X (.Assign [.Name y py] (.ListComp elt [⟨.Tuple elts kk tp,iter,[],0⟩] sc pos) spos) (fun E σ H=>zgU own.length caps wi gt te σ H fun v H1=>E.nx (σ.set i (some v)) H1):=by
 intro pins s σ H E I h
 rw[exec_Assign_Name_used (hs:=hsw)]
 refine wpAny_bind (wpAny_standAt ?_); refine wpAny_bind ?_; show wpAny _ _ (comprehension _ sc X.env _ (newList []) false (eval iter X.env) (some (assign (.Name y py) X.env)) >>= fun _=>pure ()) _ _ s
 refine wpAny_bind (thn (zpM (use:=some (assign (.Name y py) X.env)) (Qr:=fun _ s'=>SP X pins E .next s') hc cs (zdV hN).1 (zdV hN).2 hi hg he hs I h fun D C s' f=>?_) fun _ s' hq=>wpAny_pure (wpAny_pure hq))
 obtain⟨⟨H',I',q,hC⟩,⟨m,ns⟩,l,o,c,p⟩:=f
 refine wpAny_assign_Name (zn6 (v:=.ref D) I' hNd hy (.inl hl) rfl (fun s'' I'' ⟨a,sb,ha⟩=>⟨m,ns.sameBut sb ?_,fun h' sb'=>⟨_,H',I''.turned (t':=s''.toks) (fun b ob hb e=>(sb'.2 b hb).trans e) hC l (.inr o) c p,q⟩⟩) (.inr hl))
 rcases ha with rfl | ha
 ·exact l
 ·exact Ne.symm (c _ _ ha)
theorem zwl {ta:TDA}{te:TDE}{x1 x2:Str}{p1 p2 p pos2:Pos}{a b:Expr}{i:Nat}{y:Str}{py spos:Pos}(har:X.env.scope=ar)(hc:X.calm=true)(cs:zdM sc ar [x1,x2] N)(hl1:sc.names.lookup x1=some .local)(hl2:sc.names.lookup x2=some .local)
  (hN:caps.map (fun i=>X.N[i]?)=N.map some)(hnd:([x1,x2]++N).Nodup)(hNd:X.N.Nodup)(hy:X.N[i]?=some y)(hlo:ar.names.lookup y=some .local)(hg:Gl X "zip")(hm:X.mg "zip"=none)(hv:bootBuiltins "zip"=some (.type "zip"))(ha:PDA X Z [a,b] ta)
  (he:∀cl C s0 H0 fp pn,PD (Cx.comp X sc ([x1,x2]++N) cl C s0 H0 fp pn) Z0 elt te)
  (hsw:swapsWith (.ListComp elt [⟨.Tuple [.Name x1 p1,.Name x2 p2] kk tp,.Call (.Name "zip" p) [a,b] [] pos2,[],0⟩] sc pos) (some (.Name y py)) spos.line X.env=pure true:=by rfl)
  (hse:starEach [a,b] X.env=[(false,eval a X.env),(false,eval b X.env)]:=by rfl)(hse2:starEach [b] X.env=[(false,eval b X.env)]:=by rfl)(hs:∀y,foldedSetIterable (.Call (.Name "zip" p) [a,b] [] pos2) X.env y=pure y:=by intro _; rfl):
  PDS X Z (.Assign [.Name y py] (.ListComp elt [⟨.Tuple [.Name x1 p1,.Name x2 p2] kk tp,.Call (.Name "zip" p) [a,b] [] pos2,[],0⟩] sc pos) spos) (zhx i (ze7 caps ta te)):=by
 subst har
 refine zb7 (zwO hc cs hN (gt:=zfg X.K 2 (zex [0,1])) (te:=up X.K Z0 te) (zn3 hg hm hv ha hse hse2) (fun cl C s0 H0 fp pn=>?_) he hNd hy hlo hsw hs) fun F σ H h=>zoq (fun _ h=>zoP h) h
 have l1:(Cx.comp X sc ([x1,x2]++N) cl C s0 H0 fp pn).env.scope.names.lookup x1=some .local:=lookup_relabel_local hl1
 have l2:(Cx.comp X sc ([x1,x2]++N) cl C s0 H0 fp pn).env.scope.names.lookup x2=some .local:=lookup_relabel_local hl2
 exact zl8 hc (zgt hnd (.cons rfl (.inl l1) (.inr l1) (.cons rfl (.inl l2) (.inr l2) .nil))) rfl rfl
end
end L3

namespace L3
open PySem PySem.Spec PyProof.Rows L2
section
variable {X:Cx}{Z:Zx}
def zpv:WC:=fun ds S Q=>match ds with
 | [.bl b]=>Q (.int (if b then 1 else 0)) S
 | _=>False
theorem zrc:zbd X (.type "int") (upC X.K Z zpv):=by
 intro pins s σ H xs us Qv I rv h
 obtain⟨r,S,ds,Q,rel,ps,q,ret⟩:=h
 unfold zpv at q
 split at q
 ·rename_i b
  obtain⟨v,vs,rfl,p1,p2⟩:=ps.uncons
  have z:=p2.unnil
  subst z
  cases p1
  obtain⟨u,rfl,ru⟩:=zdl rv
  cases ru
  exact call_int_bool ⟨.int _,H,I.tok _,⟨_,rfl⟩,ret _ _ _ _ _ Ext.refl rel (.int _) q⟩
 ·exact q.elim
end
end L3

namespace L3
open PySem PySem.Spec PyProof.Rows L2
section
variable {X:Cx}{Z:Zx}{pos:Pos}
end
end L3

set_option Elab.async false
set_option linter.all false
set_option maxRecDepth 100000
set_option maxHeartbeats 40000000
namespace Mine
open PySem PySem.Spec PyProof.Rows L2 L3
theorem fsc {N P:List Str}{sc:Scope}(a:sc.kind=.function:=by rfl)(b:sc.isCoroutine=false:=by rfl)(c:sc.isGenerator=false:=by rfl)(d:N.Nodup:=by decide +kernel)(e:N.take P.length=P:=by rfl)(f:∀x∈P,sc.names.lookup x=some .local∨sc.names.lookup x=some .cell:=by decide +kernel)(g:∀y∈sc.names,y.2≠.free:=by decide +kernel):zaw N P sc:=⟨a,b,c,d,e,f,g⟩
theorem csc {sc ar:Scope}{x:Str}{caps:List Str}(a:sc.kind=.function:=by rfl)(b:∀y∈sc.names,y.2≠.cell:=by decide +kernel)(c:∀y∈sc.names,y.2=.local→sc.names.lookup y.1=some .local:=by decide +kernel)(d:sc.names.lookup x=some .local:=by rfl)(e:∀y∈caps,sc.names.lookup y=some .free:=by decide +kernel)(f:∀y∈sc.names,y.2=.free→ar.names.lookup y.1=some .cell:=by decide +kernel):zdk sc ar x caps:=⟨a,b,c,d,e,f⟩
theorem zcW {sc ar:Scope}{own caps:List Str}(a:sc.kind=.function:=by rfl)(b:∀y∈sc.names,y.2≠.cell:=by decide +kernel)(c:∀y∈sc.names,y.2=.local→sc.names.lookup y.1=some .local:=by decide +kernel)(e:∀y∈caps,sc.names.lookup y=some .free:=by decide +kernel)(f:∀y∈sc.names,y.2=.free→ar.names.lookup y.1=some .cell:=by decide +kernel):zdM sc ar own caps:=⟨a,b,c,e,f⟩
abbrev Ln (sp:Sd)(n:Nat):Prop:=∀ds S Q ex,sp ds S Q ex→ds.length=n
theorem zan {X:Cx}{x:Str}{p pos:Pos}{e:Expr}{es:List Expr}{t:TDA}{k j:Nat}{ps:List Str}{sd:Sd}{ex:Ev→Addr→Sto→Prop}(G:Fk X.prog X.w X.K X.mg X.base k x ps sd)(hr:zaJ j X.A)(ha:PDA X ⟨ex,Z0.w⟩ (e::es) t)(hk:k≤j:=by decide)(hg:Gl X x:=by rfl)
  (hdb:(x == ("__debug__":Str))=false:=by decide)(he:starEach (e::es) X.env=(false,eval e X.env)::starEach es X.env:=by rfl)(hpl:(backTo pos (starEach es X.env)).any (·.1)=false:=by rfl):PD X ⟨ex,Z0.w⟩ (.Call (.Name x p) (e::es) [] pos) (zly ex sd t):=zvN G (hr.mono hk) zfQ hg ha hdb he hpl
abbrev zkx:Stmt:=top 61
abbrev zhG:List Str:=["_law_cell_here"]
theorem zwK:zaw ["_law_cell_here"] zhG (zao zkx):=fsc
abbrev zj6:Stmt:=top 56
abbrev zdr:List Str:=["_law_script","_law_k"]
theorem zvw:zaw ["_law_script","_law_k"] zdr (zao zj6):=fsc
abbrev zlI:Stmt:=top 66
abbrev zgu:List Str:=["_law_script","_law_size","_law_grid_here","_law_parts"]
theorem zfz:zaw ["_law_script","_law_size","_law_grid_here","_law_parts","_law_point_here","_law_k","_law_cell_here","_law_place"] zgu (zao zlI):=fsc
abbrev zlV:Stmt:=top 67
abbrev zh2:List Str:=["_law_script","_law_point_here","_law_parts","_law_grid_here"]
theorem zdq:zaw ["_law_script","_law_point_here","_law_parts","_law_grid_here","_law_box","_law_room","_law_k","_law_place","_law_below","_law_above","_law_low"] zh2 (zao zlV):=fsc
abbrev zmF:Stmt:=top 60
abbrev zff:List Str:=["_law_top","_law_bottom"]
theorem zmP:zaw ["_law_top","_law_bottom","_law_a","_law_b"] zff (zao zmF):=fsc
abbrev zli:Stmt:=top 62
abbrev zel:List Str:=["_law_nodes","_law_node"]
theorem ztA:zaw ["_law_nodes","_law_node"] zel (zao zli):=fsc
abbrev zmJ:Stmt:=top 64
abbrev zgC:List Str:=["_law_nodes","_law_parts"]
theorem zmm:zaw ["_law_nodes","_law_parts","_law_total","_law_part"] zgC (zao zmJ):=fsc
abbrev zlm:Stmt:=top 68
abbrev zha:List Str:=["_law_script","_law_nodes","_law_factors_here"]
theorem zcx:zaw ["_law_script","_law_nodes","_law_factors_here","_law_rows_here","_law_j","_law_parts","_law_k","_law_entry","_law_number","_law_cell_here","_law_share","_law_one","_law_bent"] zha (zao zlm):=fsc
abbrev zg4:Stmt:=top 41
abbrev zgz:List Str:=["rows"]
theorem zrH:zaw ["rows"] zgz (zao zg4):=fsc
abbrev zhu:Stmt:=top 42
abbrev zeQ:List Str:=["each","places"]
theorem zs4:zaw ["each","places"] zeQ (zao zhu):=fsc
abbrev zj7:Stmt:=top 14
abbrev zhC:List Str:=["a","b"]
theorem zrP:zaw ["a","b"] zhC (zao zj7):=fsc
abbrev zkJ:Stmt:=top 16
abbrev zec:List Str:=["top","bottom"]
theorem zu2:zaw ["top","bottom"] zec (zao zkJ):=fsc
abbrev ziI:Stmt:=top 17
abbrev zgQ:List Str:=["low","high","grid"]
theorem zwd:zaw ["low","high","grid"] zgQ (zao ziI):=fsc
abbrev zmd:Stmt:=zaQ (top 27) 2
abbrev zhH:List Str:=["self","spans","box","grid"]
theorem zp5:zaw ["self","spans","box","grid","number"] zhH (zao zmd):=fsc
abbrev zlG:Stmt:=zaQ (top 28) 2
abbrev zgq:List Str:=["self","spans","box","grid"]
theorem zxH:zaw ["self","spans","box","grid"] zgq (zao zlG):=fsc
abbrev zjo:Stmt:=top 18
abbrev zdc:List Str:=["a","b"]
theorem ztN:zaw ["a","b"] zdc (zao zjo):=fsc
abbrev zlC:Stmt:=zaQ (top 30) 1
abbrev zhp:List Str:=["self","spans","box","grid"]
theorem zxV:zaw ["self","spans","box","grid"] zhp (zao zlC):=fsc
abbrev zkn:Stmt:=top 19
abbrev zdA:List Str:=["a","b"]
theorem ztu:zaw ["a","b"] zdA (zao zkn):=fsc
abbrev zku:Stmt:=zaQ (top 31) 1
abbrev zhS:List Str:=["self","spans","box","grid"]
theorem zvx:zaw ["self","spans","box","grid"] zhS (zao zku):=fsc
abbrev zjE:Stmt:=top 20
abbrev zdx:List Str:=["a","b","grid"]
theorem zqW:zaw ["a","b","grid","products"] zdx (zao zjE):=fsc
abbrev zlD:Stmt:=zaQ (top 32) 1
abbrev zhX:List Str:=["self","spans","box","grid"]
theorem zrx:zaw ["self","spans","box","grid"] zhX (zao zlD):=fsc
abbrev zma:Stmt:=top 13
abbrev zgY:List Str:=["number","many"]
theorem zkl:zaw ["number","many","worth","step"] zgY (zao zma):=fsc
abbrev zhI:Stmt:=top 21
abbrev zeL:List Str:=["a","many","grid"]
theorem zka:zaw ["a","many","grid","places","powers","bottom"] zeL (zao zhI):=fsc
abbrev zmi:Stmt:=zaQ (top 33) 2
abbrev zgg:List Str:=["self","spans","box","grid"]
theorem ztR:zaw ["self","spans","box","grid"] zgg (zao zmi):=fsc
abbrev zmc:Stmt:=zaQ (top 33) 0
abbrev zf7:List Str:=["self","one","many"]
theorem zvl:zaw ["self","one","many"] zf7 (zao zmc):=fsc
abbrev zmu:Stmt:=zaQ (top 27) 0
abbrev ziy:List Str:=["self","top","bottom"]
theorem zrV:zaw ["self","top","bottom"] ziy (zao zmu):=fsc
abbrev zkg:Stmt:=zaQ (top 28) 0
abbrev zie:List Str:=["self","place"]
theorem zsP:zaw ["self","place"] zie (zao zkg):=fsc
abbrev zkf:Stmt:=zaQ (top 29) 0
abbrev zgP:List Str:=["self","one","other"]
theorem zxX:zaw ["self","one","other"] zgP (zao zkf):=fsc
abbrev zlN:Stmt:=zaQ (top 29) 0
abbrev zg5:List Str:=["self","one","other"]
theorem zv4:zaw ["self","one","other"] zg5 (zao zlN):=fsc
abbrev zl2:Stmt:=zaQ (top 29) 0
abbrev zhc:List Str:=["self","one","other"]
theorem zvK:zaw ["self","one","other"] zhc (zao zl2):=fsc
abbrev zl3:Stmt:=top 34
abbrev ze6:List Str:=["node"]
theorem zuA:zaw ["node"] ze6 (zao zl3):=fsc
abbrev zlL:Stmt:=top 36
abbrev zd4:List Str:=["nodes","box","grid"]
theorem zog:zaw ["nodes","box","grid","found","node"] zd4 (zao zlL):=fsc
abbrev zkp:Stmt:=zaQ (top 27) 4
abbrev zia:List Str:=["self","spans","slants","unknowns","grid"]
theorem zxr:zaw ["self","spans","slants","unknowns","grid"] zia (zao zkp):=fsc
abbrev ziq:Stmt:=zaQ (top 28) 4
abbrev zgy:List Str:=["self","spans","slants","unknowns","grid"]
theorem zxY:zaw ["self","spans","slants","unknowns","grid"] zgy (zao ziq):=fsc
abbrev zks:Stmt:=zaQ (top 30) 4
abbrev zhN:List Str:=["self","x","y","a","b","grid"]
theorem ztW:zaw ["self","x","y","a","b","grid"] zhN (zao zks):=fsc
abbrev zf6:Stmt:=zaQ (top 29) 2
abbrev zgX:List Str:=["self","spans","slants","unknowns","grid"]
theorem znz:zaw ["self","spans","slants","unknowns","grid","x","y"] zgX (zao zf6):=fsc
abbrev zjL:Stmt:=zaQ (top 31) 4
abbrev zhZ:List Str:=["self","x","y","a","b","grid"]
theorem zsL:zaw ["self","x","y","a","b","grid"] zhZ (zao zjL):=fsc
abbrev zhz:Stmt:=zaQ (top 29) 2
abbrev zgN:List Str:=["self","spans","slants","unknowns","grid"]
theorem zmX:zaw ["self","spans","slants","unknowns","grid","x","y"] zgN (zao zhz):=fsc
abbrev zju:Stmt:=zaQ (top 32) 4
abbrev zhL:List Str:=["self","x","y","a","b","grid"]
theorem zvF:zaw ["self","x","y","a","b","grid"] zhL (zao zju):=fsc
abbrev zht:Stmt:=zaQ (top 29) 2
abbrev zfZ:List Str:=["self","spans","slants","unknowns","grid"]
theorem znZ:zaw ["self","spans","slants","unknowns","grid","x","y"] zfZ (zao zht):=fsc
abbrev zmI:Stmt:=top 22
abbrev zib:List Str:=["a","many"]
theorem zwC:zaw ["a","many"] zib (zao zmI):=fsc
abbrev zig:Stmt:=zaQ (top 33) 4
abbrev zgi:List Str:=["self","spans","slants","unknowns","grid"]
theorem znN:zaw ["self","spans","slants","unknowns","grid","lower","steep"] zgi (zao zig):=fsc
abbrev zlz:Stmt:=top 39
abbrev zgW:List Str:=["nodes","box","grid"]
theorem zlx:zaw ["nodes","box","grid","spans","found","node"] zgW (zao zlz):=fsc
abbrev zmK:Stmt:=top 50
abbrev zgj:List Str:=["nodes","places","box","grid"]
theorem zwD:zaw ["nodes","places","box","grid"] zgj (zao zmK):=fsc
abbrev zji:Stmt:=top 2
abbrev zdX:List Str:=["number","place"]
theorem zsH:zaw ["number","place"] zdX (zao zji):=fsc
abbrev zif:Stmt:=top 3
abbrev zdW:List Str:=["matrix","row","column"]
theorem zpi:zaw ["matrix","row","column","rest"] zdW (zao zif):=fsc
abbrev zeu:Stmt:=top 4
abbrev zbQ:List Str:=["matrix","row","column"]
theorem zlQ:zaw ["matrix","row","column"] zbQ (zao zeu):=fsc
abbrev zcn:Stmt:=top 5
abbrev zbK:List Str:=["matrix"]
theorem zhl:zaw ["matrix"] zbK (zao zcn):=fsc
abbrev zlw:Stmt:=top 6
abbrev zgG:List Str:=["matrix","whole","row","column","grid"]
theorem zwT:zaw ["matrix","whole","row","column","grid"] zgG (zao zlw):=fsc
abbrev zhK:Stmt:=top 7
abbrev zhs:List Str:=["matrix","whole","row","grid"]
theorem ztB:zaw ["matrix","whole","row","grid"] zhs (zao zhK):=fsc
abbrev zhP:Stmt:=top 8
abbrev zgO:List Str:=["matrix","grid"]
theorem zpW:zaw ["matrix","grid","whole"] zgO (zao zhP):=fsc
abbrev zkb:Stmt:=top 24
abbrev zgB:List Str:=["a"]
theorem zxN:zaw ["a"] zgB (zao zkb):=fsc
abbrev ziE:Stmt:=top 43
abbrev zfc:List Str:=["spans"]
theorem zvt:zaw ["spans"] zfc (zao ziE):=fsc
abbrev ziv:Stmt:=top 44
abbrev zfm:List Str:=["box"]
theorem zsK:zaw ["box"] zfm (zao ziv):=fsc
abbrev zl9:Stmt:=top 45
abbrev zfV:List Str:=["ones","others","grid"]
theorem zlX:zaw ["ones","others","grid","total","one","other"] zfV (zao zl9):=fsc
abbrev zgD:Stmt:=top 46
abbrev zhn:List Str:=["k","column","turns","slants","grid"]
theorem zn7:zaw ["k","column","turns","slants","grid","whole","column_slants"] zhn (zao zgD):=fsc
abbrev zd6:Stmt:=top 47
abbrev zg2:List Str:=["k","box","grid","entries","thin","slants"]
theorem zfX:zaw ["k","box","grid","entries","thin","slants","turns","centres","moved","lacks","ways"] zg2 (zao zd6):=fsc
abbrev zgc:Stmt:=top 48
abbrev zit:List Str:=["box","grid","turn","thin","slants"]
theorem zxz:zaw ["box","grid","turn","thin","slants"] zit (zao zgc):=fsc
abbrev zjn:Stmt:=top 49
abbrev zf0:List Str:=["nodes","places","box","grid"]
theorem zvc:zaw ["nodes","places","box","grid"] zf0 (zao zjn):=fsc
abbrev zj4:Stmt:=top 23
abbrev zhA:List Str:=["a","b"]
theorem zsX:zaw ["a","b"] zhA (zao zj4):=fsc
abbrev zgA:Stmt:=top 52
abbrev zhj:List Str:=["near","box"]
theorem zu0:zaw ["near","box"] zhj (zao zgA):=fsc
abbrev zi1:Stmt:=top 37
abbrev zh6:List Str:=["word","span"]
theorem zrk:zaw ["word","span"] zh6 (zao zi1):=fsc
abbrev zhU:Stmt:=top 51
abbrev ziz:List Str:=["rows","spans"]
theorem zuo:zaw ["rows","spans"] ziz (zao zhU):=fsc
abbrev zgK:Stmt:=top 53
abbrev zeB:List Str:=["nodes","rows","box","grid"]
theorem zgn:zaw ["nodes","rows","box","grid","places","slants","turn","near"] zeB (zao zgK):=fsc
abbrev zlv:Stmt:=top 54
abbrev zgr:List Str:=["nodes","rows","box","grid","rounds"]
theorem zhk:zaw ["nodes","rows","box","grid","rounds","left","time","found"] zgr (zao zlv):=fsc
abbrev ziL:Stmt:=top 63
abbrev zgw:List Str:=["_law_nodes","_law_point_here","_law_grid_here"]
theorem zgx:zaw ["_law_nodes","_law_point_here","_law_grid_here","_law_made","_law_k","_law_place","_law_number"] zgw (zao ziL):=fsc
abbrev zkC:Stmt:=top 57
abbrev zgS:List Str:=["_law_found"]
theorem zwN:zaw ["_law_found"] zgS (zao zkC):=fsc
abbrev zkA:Stmt:=top 58
abbrev zg7:List Str:=["_law_found"]
theorem zxO:zaw ["_law_found"] zg7 (zao zkA):=fsc
abbrev zkv:Stmt:=top 59
abbrev zg9:List Str:=["_law_found","_law_size"]
theorem zqz:zaw ["_law_found","_law_size","_law_span_here"] zg9 (zao zkv):=fsc
abbrev zja:Stmt:=top 69
abbrev zhO:List Str:=["_law_found","_law_box"]
theorem zp2:zaw ["_law_found","_law_box","_law_k"] zhO (zao zja):=fsc
abbrev zlq:Stmt:=top 65
abbrev zhF:List Str:=["_law_span_here","_law_a","_law_grid_here"]
theorem zwv:zaw ["_law_span_here","_law_a","_law_grid_here"] zhF (zao zlq):=fsc
abbrev zlp:Stmt:=top 70
abbrev zgk:List Str:=["_law_found","_law_box","_law_point_here","_law_grid_here"]
theorem zna:zaw ["_law_found","_law_box","_law_point_here","_law_grid_here","_law_k"] zgk (zao zlp):=fsc
abbrev zdB:Stmt:=top 71
abbrev zll:List Str:=["_law_script"]
theorem zby:zaw ["_law_script","_law_size","_law_grid_here","_law_parts","_law_point_here","_law_box","_law_nodes","_law_rows_here","_law_first","_law_last","_law_handed","_law_some","_law_every","_law_kept_here","_law_found","_law_again"] zll (zao zdB):=fsc
theorem kfo {K:PySem.W.Frag}{f c:Addr}{m:Value}{n q:Str}{st:Stmt}(l:K.lookup f=some (fo n q st m c)):PySem.W.keepIn K (.ref f)=true:=by
 unfold PySem.W.keepIn
 simp only[l]
theorem ifo {K:PySem.W.Frag}{f c:Addr}{m:Value}{n q:Str}{st:Stmt}(l:K.lookup f=some (fo n q st m c)):PySem.W.isFn K (.ref f)=true:=by
 unfold PySem.W.isFn PySem.W.typeIn
 simp only[l]
 rfl
theorem ln1 {P:List Value→Prop}(h:∀a,P [a]):∀us:List Value,us.length=1→P us
 | [a],_=>h a
theorem ln2 {P:List Value→Prop}(h:∀a b,P [a,b]):∀us:List Value,us.length=2→P us
 | [a,b],_=>h a b
theorem ln3 {P:List Value→Prop}(h:∀a b c,P [a,b,c]):∀us:List Value,us.length=3→P us
 | [a,b,c],_=>h a b c
theorem ln4 {P:List Value→Prop}(h:∀a b c d,P [a,b,c,d]):∀us:List Value,us.length=4→P us
 | [a,b,c,d],_=>h a b c d
theorem ln5 {P:List Value→Prop}(h:∀a b c d e,P [a,b,c,d,e]):∀us:List Value,us.length=5→P us
 | [a,b,c,d,e],_=>h a b c d e
theorem ln6 {P:List Value→Prop}(h:∀a b c d e f,P [a,b,c,d,e,f]):∀us:List Value,us.length=6→P us
 | [a,b,c,d,e,f],_=>h a b c d e f
abbrev Bn (n q:Str)(st:Stmt)(ps:List Str):Prop:=∀(kV doc pm:Value) (an:Option Addr) (cdv ct:Value) (us:List Value),us.length=ps.length→bindArgs (PySem.W.fnOf n q (zd3 st) (zdb st) (zao st) .none kV doc pm an cdv ct) ⟨us,[]⟩=pure (ps.zip us)
def dfo {K:PySem.W.Frag}{mg:Str→Option Value}{h:Heap}(X:K.In h)(G:h.Ns mainGlobals mg){n:Str}{st:Stmt}{f c:Addr}{m:Value}{ps:List Str}(a:PySem.W.nsIn K mainGlobals n=some (some (.ref f)))(l:K.lookup f=some (fo n n st m c))(e:PySem.W.codeIn K (.ref c) n=true)(b:Bn n n st ps):Df K mg n st ps:=⟨_,_,zi9 (st:=st) l e (kfo l),PySem.W.mg_of X G a,(zi9 (st:=st) l e (kfo l)).binds b⟩
def dmo {K:PySem.W.Frag}{C:Addr}{n q:Str}{st:Stmt}{f c:Addr}{m:Value}{ps:List Str}(a:PySem.W.findIn K (.ref C) n=some (some (.ref f)))(l:K.lookup f=some (fo n q st m c))(e:PySem.W.codeIn K (.ref c) q=true)(b:Bn n q st ps):Dm K C n q st ps:=⟨_,_,zi9 (st:=st) l e (kfo l),⟨a,ifo l,kfo l⟩,(zi9 (st:=st) l e (kfo l)).binds b⟩
abbrev nsA (K:PySem.W.Frag)(n:Str)(f:Addr):Prop:=PySem.W.nsIn K mainGlobals n=some (some (.ref f))
abbrev fdA (K:PySem.W.Frag)(C:Addr)(n:Str)(f:Addr):Prop:=PySem.W.findIn K (.ref C) n=some (some (.ref f))
abbrev lkA (K:PySem.W.Frag)(f:Addr)(n q:Str)(st:Stmt)(m:Value)(c:Addr):Prop:=K.lookup f=some (fo n q st m c)
abbrev cdA (K:PySem.W.Frag)(c:Addr)(q:Str):Prop:=PySem.W.codeIn K (.ref c) q=true

theorem za7 {C:Addr}{f:Str}{to:TDE}{dl:Ev}{S S1:Sto}{Q:DK}{n:Nat}{fs:List (Str×D)}{v:D}(hto:∀K:DK,K (.ref n) S1→to dl S K)(h:S1[n]?=some (.ins C fs))(hf:fs.lookup f=some v)(hq:Q v S1):zmG C f to dl S Q:=by
 unfold zmG
 refine hto _ ?_
 simp only[zc3,h,if_pos,hf]
 exact hq
theorem zcN {C:Addr}{f:Str}{to te:TDE}{dl:Ev}{S S1 S2:Sto}{E:zdg}{n:Nat}{fs:List (Str×D)}{v:D}(hte:∀K:DK,K v S1→te dl S K)(hto:∀K:DK,K (.ref n) S2→to dl S1 K)(h:S2[n]?=some (.ins C fs))(hl:fs.length < 1000)(hq:E.nx dl (S2.set n (.ins C (zfA f v fs)))):zmk C f to te E dl S:=by
 unfold zmk
 refine hte _ (hto _ ?_)
 simp only[zc3,h,if_pos]
 exact⟨hl,hq⟩
theorem zou {C:Addr}{m:Str}{ex:Ev→Addr→Sto→Prop}{sd:Sd}{to:TDE}{t:TDA}{dl:Ev}{S S1:Sto}{Q:DK}{n:Nat}{fs:List (Str×D)}(hto:∀K:DK,K (.ref n) S1→to dl S K)(h:S1[n]?=some (.ins C fs))(hf:fs.lookup m=none)(hq:t dl S1 fun ds S2=>sd (.ref n::ds) S2 Q (ex dl)):zjA C m ex sd to t dl S Q:=by
 unfold zjA
 refine hto _ ?_
 simp only[zc3,h,if_pos]
 exact⟨hf,hq⟩
theorem zuf {te:TDE}{dl:Ev}{S:Sto}{Q:DK}{n:Nat}{xs:List D}(ht:∀K:DK,K (.ref n) S→te dl S K)(h:S[n]?=some (.lst xs))(hq:Q (.bl true) S):zl6 "list" te dl S Q:=by
 unfold zl6
 refine ht _ ?_
 simp only[h]
 exact hq
theorem zbp {n:Nat}{S:Sto}{Q:DK}{xs:List D}(h:S[n]?=some (.lst xs))(hq:Q (.int (xs.length:Nat)) S):irr zgZ [.ref n] S Q:=by
 rw[zfS]
 unfold zgZ
 simp only[zaC h rfl]
 exact hq
theorem zcA {S:Sto}{n a:Nat}{o u:Ob}(h:S[n]?=some o)(hn:a≠n):(S.set a u)[n]?=some o:=by rw[List.getElem?_set_ne hn]; exact h
theorem zcv {S:Sto}{n:Nat}{o u:Ob}(h:S[n]?=some o):(S.set n u)[n]?=some u:=by
 have hk:=(List.getElem?_eq_some_iff.mp h).1
 simp[hk]
theorem zaz {S:Sto}{n:Nat}{o:Ob}{T:Sto}(h:S[n]?=some o):(S++T)[n]?=some o:=by
 have hk:=(List.getElem?_eq_some_iff.mp h).1
 rw[List.getElem?_append_left hk]
 exact h
theorem zcR (T R:Sto)(u:Ob):(T++u::R)[T.length]?=some u:=by simp
theorem zcG (T R:Sto)(u v:Ob):(T++u::R).set T.length v=T++v::R:=by simp
def zpn (S T:Sto):Prop:=∀(x:Nat) (o:Ob),S[x]?=some o→T[x]?=some o
theorem zpn.app (S T:Sto):zpn S (S++T):=fun _ _ h=>zaz h
theorem zbh {S:Sto}{n:Nat}{o:Ob}(h:S[n]?=some o):n < S.length:=(List.getElem?_eq_some_iff.mp h).1
theorem zvz {n m:Nat}{S:Sto}{Q:DK}{xs ys:List D}{b:Bool}(h1:S[n]?=some (.lst xs))(h2:S[m]?=some (.lst ys))(e:eqL (eqN 1) xs ys=some b)(hq:Q (.bl b) S):zbE (zeq 1) (.ref n) (.ref m) S Q:=by
 rw[zbY]
 unfold zeq
 simp only[zdL,zaC h1 rfl,zaC h2 rfl,zai,e]
 exact hq
theorem zlt {i n:Nat}{tb:TDS}{E:zdg}{dl:Ev}{S:Sto}{o:Ob}(W:Nat→Ev→Sto→Prop)(h0:W 0 dl S)(hk:∀k dl' S',W k dl' S'→S'[n]?=some o)
  (ht:∀(k:Nat) (x:D) (dl':Ev) (S':Sto) (nx ct:Ev→Sto→Prop),(zai o)[k]?=some x→W k dl' S'→(∀dl2 S2,W (k + 1) dl2 S2→nx dl2 S2)→tb { nx:=nx,rt:=E.rt,bk:=E.nx,ct:=ct } (dl'.set i (some x)) S')(he:∀dl' S',W (zai o).length dl' S'→E.nx dl' S')(hL:zbU o=some o:=by rfl):
  (lAt S n).isSome=true∧∃W:Nat→Nat→Ev→Sto→Prop,(∃m,W 0 m dl S)∧∀k m dl S,W k m dl S→match lAt S n with
  | some o=>match (zai o)[k]? with
   | some x=>tb { nx:=fun dl' S'=>∃m',m' < m∧W (k + 1) m' dl' S',rt:=E.rt,bk:=E.nx,ct:=fun dl' S'=>∃m',m' < m∧W (k + 1) m' dl' S' } (dl.set i (some x)) S
   | none=>E.nx dl S
  | none=>False:=by
 refine⟨by rw[zaC (hk _ _ _ h0) hL]; rfl,fun k m dl' S'=>m + k=(zai o).length∧W k dl' S',⟨(zai o).length,by omega,h0⟩,?_⟩
 rintro k m dl' S' ⟨hm,w⟩
 rw[zaC (hk _ _ _ w) hL]
 show (match (zai o)[k]? with
   | some x=>tb { nx:=fun dl' S''=>∃m',m' < m∧(m' + (k + 1)=(zai o).length∧W (k + 1) dl' S''),rt:=E.rt,bk:=E.nx,ct:=fun dl' S''=>∃m',m' < m∧(m' + (k + 1)=(zai o).length∧W (k + 1) dl' S'') } (dl'.set i (some x)) S'
   | none=>E.nx dl' S')
 split
 ·rename_i x hx
  have hk:k < (zai o).length:=(List.getElem?_eq_some_iff.mp hx).1
  exact ht k x dl' S' _ _ hx w fun dl2 S2 w2=>⟨m - 1,by omega,by omega,w2⟩
 ·rename_i hx
  have hk:k=(zai o).length:=by
   have:=List.getElem?_eq_none_iff.mp hx
   omega
  exact he dl' S' (hk ▸ w)

inductive Nd where
 | number (t b:Int) | unknown (k:Int) | plus (i j:Int) | minus (i j:Int) | times (i j:Int) | power (i n:Int)
def Nd.d:Nd→D
 | .number t b=>.tup [.str "number",.int t,.int b]
 | .unknown k=>.tup [.str "unknown",.int k]
 | .plus i j=>.tup [.str "plus",.int i,.int j]
 | .minus i j=>.tup [.str "minus",.int i,.int j]
 | .times i j=>.tup [.str "times",.int i,.int j]
 | .power i n=>.tup [.str "power",.int i,.int n]
def Nd.ob (cN cU cP cM cT cW:Addr):Nd→Ob
 | .number t b=>.ins cN [("top",.int t),("bottom",.int b)]
 | .unknown k=>.ins cU [("place",.int k)]
 | .plus i j=>.ins cP [("one",.int i),("other",.int j)]
 | .minus i j=>.ins cM [("one",.int i),("other",.int j)]
 | .times i j=>.ins cT [("one",.int i),("other",.int j)]
 | .power i n=>.ins cW [("one",.int i),("many",.int n)]
def inR (m i:Int):Prop:=0≤i∧i < m
def Nd.ok (m q:Int):Nd→Prop
 | .number t b=>(1≤b∧b≤10 ^ 9)∧Int.gcd t b=1∧t.natAbs≤10 ^ 9
 | .unknown k=>inR q k
 | .plus i j=>inR m i∧inR m j
 | .minus i j=>inR m i∧inR m j
 | .times i j=>inR m i∧inR m j
 | .power i n=>inR m i∧2≤n∧n≤6
def frD (p:Int×Int):D:=.tup [.int p.1,.int p.2]
abbrev gt (vs:List (Int×Int))(i:Int):Int×Int:=vs.getD i.toNat (0,1)
theorem zdN {vs:List (Int×Int)}{i:Int}(h:inR vs.length i):gt vs i∈vs:=by
 obtain⟨h0,h1⟩:=h
 have hk:i.toNat < vs.length:=by omega
 have e:gt vs i=vs[i.toNat]:=by simp[gt,hk]
 rw[e]
 exact List.getElem_mem hk
theorem za4 {vs:List (Int×Int)}{i:Int}(h:inR vs.length i):atI (vs.map frD) i=some (frD (gt vs i)):=by
 obtain⟨h0,h1⟩:=h
 have hk:i.toNat < vs.length:=by omega
 have z:=zds (xs:=vs.map frD) (j:=i.toNat) (v:=frD (gt vs i)) (by rw[List.getElem?_map,List.getElem?_eq_getElem hk]; simp[gt,hk])
 rw[show ((i.toNat:Nat):Int)=i by omega] at z
 exact z
theorem fr_eq (p q:Int×Int):eqN 1 (frD p) (frD q)=some (decide (p.1=q.1) && (decide (p.2=q.2) && true)):=by simp[frD,eqN,L3.eqT,eqL,eqF]
theorem zeM:∀vs:List (Int×Int),eqL (eqN 1) (vs.map frD) (vs.map frD)=some true
 | []=>rfl
 | u::us=>by
  show (match eqN 1 (frD u) (frD u),eqL (eqN 1) (us.map frD) (us.map frD) with | some b,some c=>some (b && c) | _,_=>none)=_
  rw[fr_eq,zeM us]
  simp
theorem zs6 {xs:List D}{d e:D}{i:Nat}{P:Nat→D→Prop}(h:(xs++[d])[i]?=some e)(hp:∀i d,xs[i]?=some d→P i d)(hd:P xs.length d):P i e:=by
 by_cases hi:i < xs.length
 ·rw[List.getElem?_append_left hi] at h
  exact hp i e h
 ·have hk:=(List.getElem?_eq_some_iff.mp h).1
  simp only[List.length_append,List.length_cons,List.length_nil] at hk
  have e1:i=xs.length:=by omega
  subst e1
  simp at h
  subst h
  exact hd
theorem zqj {caps:List Nat}{tl te:TDE}{dl:Ev}{S S1:Sto}{Q:DK}{n:Nat}{o:Ob}(P:Nat→D→Prop)(htl:∀K:DK,K (.ref n) S1→tl dl S K)(h1:S1[n]?=some o)(hl:(zai o).length≤1000)
  (ht:∀(k:Nat) (x:D),(zai o)[k]?=some x→∀(S2:Sto) (K:DK),Pre S1 S2→(∀d,P k d→K d S2)→te (some x::zbz caps dl) S2 K)(hq:∀xs:List D,xs.length=(zai o).length→(∀k d,xs[k]?=some d→P k d)→Q (.ref S1.length) (S1++[.lst xs]))(hL:zbU o=some o:=by rfl):zcj caps tl zcp te dl S Q:=by
 unfold zcj
 refine htl _ ⟨by rw[zaC h1 hL]; rfl,fun k m S2=>(∃xs:List D,S2=S1++[.lst xs]∧xs.length=k∧∀i d,xs[i]?=some d→P i d)∧m + k=(zai o).length,⟨(zai o).length,⟨[],rfl,rfl,fun i d h=>by simp at h⟩,by omega⟩,?_⟩
 rintro k m S2 ⟨⟨xs,rfl,hx,hp⟩,hm⟩
 rw[zaC (zcQ h1) hL]
 dsimp only
 split
 ·rename_i x hk
  have hk':k < (zai o).length:=(List.getElem?_eq_some_iff.mp hk).1
  unfold zdf zcp
  simp only[if_true]
  refine ht k x hk _ _ Pre.refl.push fun d hd=>?_
  rw[zax]
  refine⟨by omega,m - 1,by omega,⟨xs++[d],znS _ _ _,by simp[hx],fun i e he=>zs6 he hp (hx ▸ hd)⟩,by omega⟩
 ·rename_i hk
  have hk':=List.getElem?_eq_none_iff.mp hk
  exact hq xs (by omega) hp
structure zeE (a b c d mn mx:Int):Prop where
 lo:mn=a * c∨mn=a * d∨mn=b * c∨mn=b * d
 l1:mn≤a * c
 l2:mn≤a * d
 l3:mn≤b * c
 l4:mn≤b * d
 hi:mx=a * c∨mx=a * d∨mx=b * c∨mx=b * d
 h1:a * c≤mx
 h2:a * d≤mx
 h3:b * c≤mx
 h4:b * d≤mx
theorem zeE.of {a b c d mn mx:Int}(m1:mn∈[a * c,a * d,b * c,b * d])(m2:∀y∈[a * c,a * d,b * c,b * d],mn≤y)(x1:mx∈[a * c,a * d,b * c,b * d])(x2:∀y∈[a * c,a * d,b * c,b * d],y≤mx):zeE a b c d mn mx:=by
 simp only[List.mem_cons,List.not_mem_nil,or_false] at m1 x1
 exact⟨m1,m2 _ (by simp),m2 _ (by simp),m2 _ (by simp),m2 _ (by simp),x1,x2 _ (by simp),x2 _ (by simp),x2 _ (by simp),x2 _ (by simp)⟩

structure zdw (a b:Int)(n:Nat)(m M:Int):Prop where
 lo:m=a ^ n∨m=b ^ n∨(a < 0∧0 < b∧m=0)
 l1:m≤a ^ n
 l2:m≤b ^ n
 l3:a < 0→0 < b→m≤0
 hi:M=a ^ n∨M=b ^ n
 h1:a ^ n≤M
 h2:b ^ n≤M
theorem ziR {n:Nat}(h:1≤n):(0:Int) ^ n=0:=by
 cases n with
 | zero=>omega
 | succ k=>rw[Int.pow_succ,Int.mul_zero]
theorem zql (n:Nat):(∀x:Int,(-x) ^ n=x ^ n)∨(∀x:Int,(-x) ^ n=-(x ^ n)):=by
 induction n with
 | zero=>left; intro x; rw[Int.pow_zero,Int.pow_zero]
 | succ k ih=>
  rcases ih with e | e
  ·right; intro x; rw[Int.pow_succ,Int.pow_succ,e,Int.mul_neg]
  ·left; intro x; rw[Int.pow_succ,Int.pow_succ,e,Int.neg_mul_neg]
theorem zfv {x y:Int}(h0:0≤x)(h:x≤y)(n:Nat):x ^ n≤y ^ n:=by
 induction n with
 | zero=>rw[Int.pow_zero,Int.pow_zero]; exact Int.le_refl _
 | succ k ih=>
  rw[Int.pow_succ,Int.pow_succ]
  exact Int.mul_le_mul ih h h0 (Int.pow_nonneg (by omega))
theorem zvH {y z x m M:Int}{n:Nat}(hn:1≤n)(h1:y≤x)(h2:x≤z)(m1:m≤y ^ n)(m2:m≤z ^ n)(m3:y < 0→0 < z→m≤0)(M1:y ^ n≤M)(M2:z ^ n≤M):m≤x ^ n∧x ^ n≤M:=by
 by_cases hy:0≤y
 ·have e1:=zfv hy h1 n
  have e2:=zfv (show 0≤x by omega) h2 n
  omega
 ·by_cases hz:z≤0
  ·have e1:=zfv (show 0≤-z by omega) (show -z≤-x by omega) n
   have e2:=zfv (show 0≤-x by omega) (show -x≤-y by omega) n
   rcases zql n with p | p <;> rw[p,p] at e1 e2 <;> omega
  ·have m3':=m3 (by omega) (by omega)
   have z0:(0:Int)≤z ^ n:=Int.pow_nonneg (by omega)
   by_cases hx:0≤x
   ·have e1:(0:Int)≤x ^ n:=Int.pow_nonneg hx
    have e2:=zfv hx h2 n
    omega
   ·have e1:(0:Int)≤(-x) ^ n:=Int.pow_nonneg (by omega)
    have e2:=zfv (show 0≤-x by omega) (show -x≤-y by omega) n
    rcases zql n with p | p
    ·rw[p] at e1
     rw[p,p] at e2
     omega
    ·rw[p] at e1
     rw[p,p] at e2
     omega
theorem zdw.of {a b g mn mx:Int}{n:Nat}(hg:1≤g){l:List Int}(hl:l=[a ^ n * g,b ^ n * g]∧¬ (a < 0∧0 < b)∨l=[a ^ n * g,b ^ n * g,0 ^ n * g]∧a < 0∧0 < b)(hn:1≤n)(m1:mn∈l)(m2:∀y∈l,mn≤y)(x1:mx∈l)(x2:∀y∈l,y≤mx):
  ∃m M,zdw a b n m M∧mn=m * g∧mx=M * g:=by
 have can:∀ {x y:Int},x * g≤y * g→x≤y:=fun {x y} h=>Int.le_of_mul_le_mul_right h (by omega)
 rcases hl with ⟨rfl,hz⟩ | ⟨rfl,hz1,hz2⟩
 ·simp only[List.mem_cons,List.not_mem_nil,or_false] at m1 x1
  have a1:=m2 (a ^ n * g) (by simp)
  have a2:=m2 (b ^ n * g) (by simp)
  have b1:=x2 (a ^ n * g) (by simp)
  have b2:=x2 (b ^ n * g) (by simp)
  obtain⟨m,hm,em⟩:∃m,(m=a ^ n∨m=b ^ n)∧mn=m * g:=by
   rcases m1 with e | e
   ·exact⟨_,.inl rfl,e⟩
   ·exact⟨_,.inr rfl,e⟩
  obtain⟨M,hM,eM⟩:∃m,(m=a ^ n∨m=b ^ n)∧mx=m * g:=by
   rcases x1 with e | e
   ·exact⟨_,.inl rfl,e⟩
   ·exact⟨_,.inr rfl,e⟩
  subst em eM
  exact⟨m,M,⟨hm.elim .inl fun e=>.inr (.inl e),can a1,can a2,fun c1 c2=>absurd ⟨c1,c2⟩ hz,hM,can b1,can b2⟩,rfl,rfl⟩
 ·rw[ziR hn,Int.zero_mul] at m1 m2 x1 x2
  simp only[List.mem_cons,List.not_mem_nil,or_false] at m1 x1
  have a1:=m2 (a ^ n * g) (by simp)
  have a2:=m2 (b ^ n * g) (by simp)
  have a3:=m2 0 (by simp)
  have b1:=x2 (a ^ n * g) (by simp)
  have b2:=x2 (b ^ n * g) (by simp)
  have b3:=x2 0 (by simp)
  obtain⟨m,hm,em⟩:∃m,(m=a ^ n∨m=b ^ n∨m=0)∧mn=m * g:=by
   rcases m1 with e | e | e
   ·exact⟨_,.inl rfl,e⟩
   ·exact⟨_,.inr (.inl rfl),e⟩
   ·exact⟨0,.inr (.inr rfl),by rw[e,Int.zero_mul]⟩
  have bp:(0:Int)≤b ^ n:=Int.pow_nonneg (by omega)
  have bg:=Int.mul_nonneg bp (show 0≤g by omega)
  obtain⟨M,hM,eM⟩:∃m,(m=a ^ n∨m=b ^ n)∧mx=m * g:=by
   rcases x1 with e | e | e
   ·exact⟨_,.inl rfl,e⟩
   ·exact⟨_,.inr rfl,e⟩
   ·exact⟨_,.inr rfl,by omega⟩
  subst em eM
  refine⟨m,M,⟨?_,can a1,can a2,fun _ _=>can (by rw[Int.zero_mul]; exact a3),hM,can b1,can b2⟩,rfl,rfl⟩
  rcases hm with e | e | e
  ·exact .inl e
  ·exact .inr (.inl e)
  ·exact .inr (.inr ⟨hz1,hz2,e⟩)
theorem ze2 {m g:Int}{n:Nat}(hg:1≤g)(hn:1≤n):m * g / g ^ n=m / g ^ (n - 1):=by
 obtain⟨k,rfl⟩:∃k,n=k + 1:=⟨n - 1,by omega⟩
 rw[Int.pow_succ,Nat.add_sub_cancel,Int.mul_ediv_mul_of_pos_left _ _ (by omega)]

def mn4 (a b c d:Int):Int:=min (min (a * c) (a * d)) (min (b * c) (b * d))
def mx4 (a b c d:Int):Int:=max (max (a * c) (a * d)) (max (b * c) (b * d))
theorem zeE.eq {a b c d mn mx:Int}(h:zeE a b c d mn mx):mn=mn4 a b c d∧mx=mx4 a b c d:=by
 obtain⟨h0,h1,h2,h3,h4,h5,h6,h7,h8,h9⟩:=h
 unfold mn4 mx4
 omega
def zaL (a b:Int)(n:Nat):Int:=if n % 2=0∧a≤0∧0≤b then 0 else min (a ^ n) (b ^ n)
def za0 (a b:Int)(n:Nat):Int:=max (a ^ n) (b ^ n)
theorem zdY {n:Nat}(h:n % 2=0)(x:Int):0≤x ^ n:=by
 obtain⟨k,rfl⟩:∃k,n=k + k:=⟨n / 2,by omega⟩
 rw[Int.pow_add]
 by_cases c:0≤x ^ k
 ·exact Int.mul_nonneg c c
 ·have:=Int.mul_nonneg (show 0≤-(x ^ k) by omega) (show 0≤-(x ^ k) by omega)
  rw[Int.neg_mul_neg] at this
  exact this
theorem zkT {n:Nat}(h:n % 2=1){x:Int}(hx:x < 0):x ^ n < 0:=by
 obtain⟨k,rfl⟩:∃k,n=k + 1:=⟨n - 1,by omega⟩
 have z:=zdY (n:=k) (by omega) x
 have nz:∀k:Nat,x ^ k≠0:=fun k=>by
  induction k with
  | zero=>rw[Int.pow_zero]; decide
  | succ k ih=>rw[Int.pow_succ]; exact Int.mul_ne_zero ih (by omega)
 have nz:=nz k
 have:=Int.mul_pos (show 0 < x ^ k by omega) (show 0 < -x by omega)
 rw[Int.mul_neg] at this
 rw[Int.pow_succ]
 omega
theorem zdw.eq {a b m M:Int}{n:Nat}(h:zdw a b n m M)(hn:1≤n):m=zaL a b n∧M=za0 a b n:=by
 obtain⟨h0,h1,h2,h3,h4,h5,h6⟩:=h
 refine⟨?_,by unfold za0; omega⟩
 unfold zaL
 split
 ·rename_i c
  obtain⟨c1,c2,c3⟩:=c
  have e1:=zdY c1 a
  have e2:=zdY c1 b
  by_cases z:a < 0∧0 < b
  ·have:=h3 z.1 z.2
   omega
  ·have z':a=0∨b=0:=by omega
   rcases z' with rfl | rfl
   ·rw[ziR hn] at h1
    omega
   ·rw[ziR hn] at h2
    omega
 ·rename_i c
  have hz:a < 0→0 < b→m≠0:=fun a1 b1 e=>by
   by_cases p:n % 2=0
   ·exact c ⟨p,by omega,by omega⟩
   ·have:=zkT (n:=n) (by omega) a1
    omega
  omega
def Nd.fw (vs bs:List (Int×Int))(g:Int):Nd→Int×Int
 | .number t b=>(t * g / b,-(-(t * g) / b))
 | .unknown k=>gt bs k
 | .plus i j=>((gt vs i).1 + (gt vs j).1,(gt vs i).2 + (gt vs j).2)
 | .minus i j=>((gt vs i).1 - (gt vs j).2,(gt vs i).2 - (gt vs j).1)
 | .times i j=>(mn4 (gt vs i).1 (gt vs i).2 (gt vs j).1 (gt vs j).2 / g,-(-mx4 (gt vs i).1 (gt vs i).2 (gt vs j).1 (gt vs j).2 / g))
 | .power i n=>(zaL (gt vs i).1 (gt vs i).2 n.toNat / g ^ (n.toNat - 1),-(-za0 (gt vs i).1 (gt vs i).2 n.toNat / g ^ (n.toNat - 1)))
def Spn (B:Nat)(vs:List (Int×Int)):Prop:=∀p∈vs,p.1≤p.2∧Sz B p.1∧Sz B p.2
theorem Spn.at {B:Nat}{vs:List (Int×Int)}(h:Spn B vs){i:Int}(hi:inR vs.length i):(gt vs i).1≤(gt vs i).2∧Sz B (gt vs i).1∧Sz B (gt vs i).2:=h _ (zdN hi)
theorem Spn.mono {B C:Nat}{vs:List (Int×Int)}(h:Spn B vs)(hc:B≤C):Spn C vs:=fun p hp=>⟨(h p hp).1,(h p hp).2.1.mono hc,(h p hp).2.2.mono hc⟩
theorem zfO {m M g:Int}(hg:1≤g)(h:m≤M):m / g≤-(-M / g):=by
 have h1:=Int.ediv_mul_le m (show g≠0 by omega)
 have h2:=Int.ediv_mul_le (-M) (show g≠0 by omega)
 have:m / g * g≤-(-M / g) * g:=by rw[Int.neg_mul]; omega
 exact Int.le_of_mul_le_mul_right this (by omega)
theorem zni (a b:Int)(n:Nat):zaL a b n≤za0 a b n:=by
 unfold zaL za0
 split
 ·rename_i c
  have:=zdY c.1 a
  omega
 ·omega
theorem zpa (a b c d:Int):mn4 a b c d≤mx4 a b c d:=by unfold mn4 mx4; omega
theorem Nd.fw_le {vs bs:List (Int×Int)}{g:Int}{B:Nat}(h1:Spn B vs)(h2:Spn B bs)(hg:1≤g):∀v:Nd,v.ok vs.length bs.length→(v.fw vs bs g).1≤(v.fw vs bs g).2
 | .number t b,ok=>zfO ok.1.1 (Int.le_refl _)
 | .unknown k,ok=>(h2.at ok).1
 | .plus i j,ok=>by
  have a:=(h1.at ok.1).1
  have b:=(h1.at ok.2).1
  show (gt vs i).1 + (gt vs j).1≤(gt vs i).2 + (gt vs j).2
  omega
 | .minus i j,ok=>by
  have a:=(h1.at ok.1).1
  have b:=(h1.at ok.2).1
  show (gt vs i).1 - (gt vs j).2≤(gt vs i).2 - (gt vs j).1
  omega
 | .times i j,ok=>zfO hg (zpa _ _ _ _)
 | .power i n,ok=>zfO (Int.pow_pos (by omega)) (zni _ _ _)
theorem zpN {a b:TDS}{E:zdg}{dl:Ev}{S:Sto}(W:Ev→Sto→Prop)(ha:∀nx:Ev→Sto→Prop,(∀dl' S',W dl' S'→nx dl' S')→a { nx:=nx,rt:=E.rt,bk:=E.bk,ct:=E.ct } dl S)(hb:∀dl' S',W dl' S'→b E dl' S'):zcT a b E dl S:=ha _ hb
theorem zpZ {a b c:TDS}{E:zdg}{dl:Ev}{S:Sto}(W:Ev→Sto→Prop)(ha:∀nx:Ev→Sto→Prop,(∀dl' S',W dl' S'→nx dl' S')→zcT a b { nx:=nx,rt:=E.rt,bk:=E.bk,ct:=E.ct } dl S)(hb:∀dl' S',W dl' S'→c E dl' S'):zcT a (zcT b c) E dl S:=ha _ hb
theorem zev {n:Nat}{m g:Int}(h:Sz n m)(hg:1≤g):Sz n (-(-m / g)):=(h.neg.div hg).neg
theorem zdi {n:Nat}{a b:Int}(ha:Sz n a)(hb:Sz n b):Sz n (min a b):=by unfold Sz at *; omega
theorem zc0 {n:Nat}{a b:Int}(ha:Sz n a)(hb:Sz n b):Sz n (max a b):=by unfold Sz at *; omega
theorem Spn.set {B:Nat}{vs:List (Int×Int)}(h:Spn B vs){k:Nat}{u:Int}(hu:Sz B u):Spn B (vs.set k (u,u)):=fun p hp=>by
 rcases List.mem_or_eq_of_mem_set hp with e | e
 ·exact h p e
 ·subst e; exact⟨Int.le_refl _,hu,hu⟩
def Nd.wt (ws:List Nat):Nd→Nat
 | .number _ _=>1
 | .unknown _=>1
 | .plus i j=>ws.getD i.toNat 0 + ws.getD j.toNat 0
 | .minus i j=>ws.getD i.toNat 0 + ws.getD j.toNat 0
 | .times i j=>ws.getD i.toNat 0 + ws.getD j.toNat 0
 | .power i n=>n.toNat * ws.getD i.toNat 0
structure zaG (q:Int)(ns:List Nd)(ws:List Nat):Prop where
 len:ws.length=ns.length
 ok:∀(k:Nat) (v:Nd),ns[k]?=some v→v.ok k q∧ws.getD k 0=v.wt ws∧1≤v.wt ws∧v.wt ws≤16
theorem zaG.nil (q:Int):zaG q [] []:=⟨rfl,fun k v h=>by simp at h⟩
theorem zaG.w1 {q:Int}{ns:List Nd}{ws:List Nat}(h:zaG q ns ws){i:Int}(hi:inR ns.length i):1≤ws.getD i.toNat 0∧ws.getD i.toNat 0≤16:=by
 obtain⟨h0,h1⟩:=hi
 have hk:i.toNat < ns.length:=(by omega)
 obtain⟨_,e,a,b⟩:=h.ok i.toNat _ (List.getElem?_eq_getElem hk)
 omega
theorem zaG.w2 {q:Int}{ns:List Nd}{ws:List Nat}(h:zaG q ns ws):∀v:Nd,v.ok ns.length q→1≤v.wt ws∧v.wt ws≤96
 | .number _ _,_=>⟨Nat.le_refl 1,show 1≤96 by decide⟩
 | .unknown _,_=>⟨Nat.le_refl 1,show 1≤96 by decide⟩
 | .plus i j,ok=>by have a:=h.w1 ok.1; have b:=h.w1 ok.2; simp only[Nd.wt]; omega
 | .minus i j,ok=>by have a:=h.w1 ok.1; have b:=h.w1 ok.2; simp only[Nd.wt]; omega
 | .times i j,ok=>by have a:=h.w1 ok.1; have b:=h.w1 ok.2; simp only[Nd.wt]; omega
 | .power i n,ok=>by
  have a:=h.w1 ok.1
  have n2:=ok.2.1
  have n6:=ok.2.2
  have m1:=Nat.mul_le_mul (show 1≤n.toNat by omega) a.1
  have m2:=Nat.mul_le_mul (show n.toNat≤6 by omega) a.2
  simp only[Nd.wt]
  omega
theorem zpm {ws:List Nat}{w:Nat}{k:Nat}(h:k < ws.length):(ws++[w]).getD k 0=ws.getD k 0:=by
 rw[List.getD_eq_getElem?_getD,List.getD_eq_getElem?_getD,List.getElem?_append_left h]
theorem zpU {ws:List Nat}{w:Nat}{q:Int}{k:Nat}(hk:k≤ws.length):∀v:Nd,v.ok k q→v.wt (ws++[w])=v.wt ws:=by
 have e:∀i:Int,inR k i→(ws++[w]).getD i.toNat 0=ws.getD i.toNat 0:=fun i hi=>zpm (by have a:=hi.1; have b:=hi.2; omega)
 intro v ok
 cases v with
 | number _ _=>rfl
 | unknown _=>rfl
 | plus i j=>show _ + _=_ + _; rw[e i ok.1,e j ok.2]
 | minus i j=>show _ + _=_ + _; rw[e i ok.1,e j ok.2]
 | times i j=>show _ + _=_ + _; rw[e i ok.1,e j ok.2]
 | power i n=>show _ * _=_ * _; rw[e i ok.1]
theorem zaG.snoc {q:Int}{ns:List Nd}{ws:List Nat}(h:zaG q ns ws){v:Nd}(ok:v.ok ns.length q)(h16:v.wt ws≤16):zaG q (ns++[v]) (ws++[v.wt ws]):=by
 refine⟨by simp[h.len],fun k u hu=>?_⟩
 by_cases hk:k < ns.length
 ·rw[List.getElem?_append_left hk] at hu
  obtain⟨a,b,c,d⟩:=h.ok k u hu
  have e:=zpU (w:=v.wt ws) (q:=q) (k:=k) (by rw[h.len]; omega) u a
  rw[e,zpm (by rw[h.len]; exact hk)]
  exact⟨a,b,c,d⟩
 ·have hl:=(List.getElem?_eq_some_iff.mp hu).1
  simp only[List.length_append,List.length_cons,List.length_nil] at hl
  have ek:k=ns.length:=by omega
  subst ek
  simp at hu
  subst hu
  have e:=zpU (w:=v.wt ws) (q:=q) (k:=ns.length) (by rw[h.len]; omega) v ok
  rw[e]
  refine⟨ok,?_,(h.w2 v ok).1,h16⟩
  rw[← h.len]
  simp
theorem zaG.take {q:Int}{ns:List Nd}{ws:List Nat}(h:zaG q ns ws)(n:Nat):zaG q (ns.take n) (ws.take n):=by
 have e:∀k:Nat,k < n→(ws.take n).getD k 0=ws.getD k 0:=fun k hk=>by
  rw[List.getD_eq_getElem?_getD,List.getD_eq_getElem?_getD,List.getElem?_take_of_lt hk]
 refine⟨by simp[h.len],fun k u hu=>?_⟩
 have hl:=(List.getElem?_eq_some_iff.mp hu).1
 rw[List.length_take] at hl
 have hk:k < n:=by omega
 rw[List.getElem?_take_of_lt hk] at hu
 obtain⟨a,b,c,d⟩:=h.ok k u hu
 have e2:u.wt (ws.take n)=u.wt ws:=by
  have f:∀i:Int,inR k i→(ws.take n).getD i.toNat 0=ws.getD i.toNat 0:=fun i hi=>e _ (by have:=hi.1; have:=hi.2; omega)
  cases u with
  | number _ _=>rfl
  | unknown _=>rfl
  | plus i j=>show _ + _=_ + _; rw[f i a.1,f j a.2]
  | minus i j=>show _ + _=_ + _; rw[f i a.1,f j a.2]
  | times i j=>show _ + _=_ + _; rw[f i a.1,f j a.2]
  | power i m=>show _ * _=_ * _; rw[f i a.1]
 rw[e2,e k hk]
 exact⟨a,b,c,d⟩
def zar (bs:List (Int×Int))(g:Int)(ns:List Nd):List (Int×Int):=ns.foldl (fun acc v=>acc++[v.fw acc bs g]) []
theorem zhw (bs:List (Int×Int))(g:Int)(ns:List Nd)(v:Nd):zar bs g (ns++[v])=zar bs g ns++[v.fw (zar bs g ns) bs g]:=by
 unfold zar
 rw[List.foldl_append]
 rfl
theorem zbT {α:Type}{xs:List α}{k:Nat}{x:α}(h:xs[k]?=some x):xs.take (k + 1)=xs.take k++[x]:=by rw[List.take_succ,h]; rfl
theorem zcB (bs:List (Int×Int))(g:Int)(ns:List Nd):(zar bs g ns).length=ns.length:=by
 have z:∀k,k≤ns.length→(zar bs g (ns.take k)).length=k:=fun k=>by
  induction k with
  | zero=>intro _; rfl
  | succ k ih=>
   intro hk
   rw[zbT (List.getElem?_eq_getElem (show k < ns.length by omega)),zhw]
   simp[ih (by omega)]
 have:=z ns.length (Nat.le_refl _)
 rwa [List.take_length] at this
theorem zsS (bs:List (Int×Int))(g:Int)(ns:List Nd)(k:Nat):k≤ns.length→(zar bs g ns).take k=zar bs g (ns.take k):=by
 have z:∀m,k≤m→m≤ns.length→(zar bs g (ns.take m)).take k=zar bs g (ns.take k):=fun m=>by
  induction m with
  | zero=>
   intro h1 _
   have:k=0:=by omega
   subst this
   rfl
  | succ m ih=>
   intro h1 h2
   by_cases e:k=m + 1
   ·subst e
    rw[List.take_of_length_le (by rw[zcB,List.length_take]; omega)]
   ·rw[zbT (List.getElem?_eq_getElem (show m < ns.length by omega)),zhw,List.take_append_of_le_length (by rw[zcB,List.length_take]; omega)]
    exact ih (by omega) (by omega)
 intro hk
 have:=z ns.length hk (Nat.le_refl _)
 rwa [List.take_length] at this
def SzW (ws:List Nat)(vs:List (Int×Int)):Prop:=∀(k:Nat) (p:Int×Int),vs[k]?=some p→p.1≤p.2∧Sz (60 * ws.getD k 0 - 1) p.1∧Sz (60 * ws.getD k 0 - 1) p.2
theorem SzW.at {ws:List Nat}{vs:List (Int×Int)}(h:SzW ws vs){i:Int}(hi:inR vs.length i):(gt vs i).1≤(gt vs i).2∧Sz (60 * ws.getD i.toNat 0 - 1) (gt vs i).1∧Sz (60 * ws.getD i.toNat 0 - 1) (gt vs i).2:=by
 obtain⟨h0,h1⟩:=hi
 have hk:i.toNat < vs.length:=by omega
 have e:gt vs i=vs[i.toNat]:=by simp[gt,hk]
 rw[e]
 exact h _ _ (List.getElem?_eq_getElem hk)
theorem fw_w {ws:List Nat}{vs bs:List (Int×Int)}{g:Int}(hs:SzW ws vs)(hb:Spn 51 bs)(hg:1≤g∧g≤1000000)(hw:∀i:Int,inR vs.length i→1≤ws.getD i.toNat 0):∀v:Nd,v.ok vs.length bs.length→Sz (60 * v.wt ws - 1) (v.fw vs bs g).1∧Sz (60 * v.wt ws - 1) (v.fw vs bs g).2
 | .number t b,ok=>by
  have z:Sz 52 (t * g):=(Sz.of (n:=31) (10 ^ 9) ok.2.2).mul (Sz.of (n:=21) (10 ^ 6) (show g.natAbs≤_ by omega))
  exact⟨(z.div ok.1.1).mono (show 52≤60 * 1 - 1 by decide),(zev z ok.1.1).mono (show 52≤60 * 1 - 1 by decide)⟩
 | .unknown k,ok=>⟨(hb.at ok).2.1.mono (show 51≤60 * 1 - 1 by decide),(hb.at ok).2.2.mono (show 51≤60 * 1 - 1 by decide)⟩
 | .plus i j,ok=>by
  have a:=hs.at ok.1
  have b:=hs.at ok.2
  have p:=hw i ok.1
  have q:=hw j ok.2
  exact⟨(a.2.1.add b.2.1).mono (by simp only[Nd.wt]; omega),(a.2.2.add b.2.2).mono (by simp only[Nd.wt]; omega)⟩
 | .minus i j,ok=>by
  have a:=hs.at ok.1
  have b:=hs.at ok.2
  have p:=hw i ok.1
  have q:=hw j ok.2
  exact⟨(a.2.1.sub b.2.2).mono (by simp only[Nd.wt]; omega),(a.2.2.sub b.2.1).mono (by simp only[Nd.wt]; omega)⟩
 | .times i j,ok=>by
  have a:=hs.at ok.1
  have b:=hs.at ok.2
  have p:=hw i ok.1
  have q:=hw j ok.2
  have le:∀ {x y:Int},Sz (60 * ws.getD i.toNat 0 - 1) x→Sz (60 * ws.getD j.toNat 0 - 1) y→Sz (60 * Nd.wt ws (.times i j) - 1) (x * y):=fun h1 h2=>(h1.mul h2).mono (by simp only[Nd.wt]; omega)
  have l:=zdi (zdi (le a.2.1 b.2.1) (le a.2.1 b.2.2)) (zdi (le a.2.2 b.2.1) (le a.2.2 b.2.2))
  have u:=zc0 (zc0 (le a.2.1 b.2.1) (le a.2.1 b.2.2)) (zc0 (le a.2.2 b.2.1) (le a.2.2 b.2.2))
  exact⟨l.div hg.1,zev u hg.1⟩
 | .power i n,ok=>by
  have a:=hs.at ok.1
  have p:=hw i ok.1
  have n2:=ok.2.1
  have gp:(1:Int)≤g ^ (n.toNat - 1):=Int.pow_pos (by omega)
  have hn:(60 * ws.getD i.toNat 0 - 1) * n.toNat + 1≤60 * Nd.wt ws (.power i n) - 1:=by
   simp only[Nd.wt]
   rw[Nat.sub_mul,Nat.one_mul]
   have e:60 * ws.getD i.toNat 0 * n.toNat=60 * (n.toNat * ws.getD i.toNat 0):=by rw[Nat.mul_assoc,Nat.mul_comm (ws.getD i.toNat 0)]
   have m1:=Nat.mul_le_mul (Nat.le_refl n.toNat) p
   omega
  have p1:Sz (60 * Nd.wt ws (.power i n) - 1) ((gt vs i).1 ^ n.toNat):=(a.2.1.pow _).mono hn
  have p2:Sz (60 * Nd.wt ws (.power i n) - 1) ((gt vs i).2 ^ n.toNat):=(a.2.2.pow _).mono hn
  have l:Sz (60 * Nd.wt ws (.power i n) - 1) (zaL (gt vs i).1 (gt vs i).2 n.toNat):=by
   unfold zaL
   split
   ·exact(Sz.of (n:=1) 0 (by decide)).mono (by have:=Nat.mul_le_mul (show 1≤n.toNat by omega) p; simp only[Nd.wt]; omega)
   ·exact zdi p1 p2
  exact⟨l.div gp,zev (zc0 p1 p2) gp⟩
theorem Spn.of_w {ws:List Nat}{vs:List (Int×Int)}(h:SzW ws vs)(hw:∀k:Nat,k < vs.length→ws.getD k 0≤16):Spn 1000 vs:=fun p hp=>by
 obtain⟨k,hk,e⟩:=List.mem_iff_getElem.mp hp
 obtain⟨a,b,c⟩:=h k p (by rw[List.getElem?_eq_getElem hk,e])
 have:=hw k hk
 exact⟨a,b.mono (by omega),c.mono (by omega)⟩
theorem zpY {q:Int}{ns:List Nd}{ws:List Nat}{bs:List (Int×Int)}{g:Int}(h:zaG q ns ws)(hq:q=bs.length)(hb:Spn 51 bs)(hg:1≤g∧g≤1000000):∀k,k≤ns.length→SzW ws (zar bs g (ns.take k)):=fun k=>by
 induction k with
 | zero=>intro _ i p hp; simp[zar] at hp
 | succ k ih=>
  intro hk
  have hv:=List.getElem?_eq_getElem (show k < ns.length by omega)
  have s:=ih (by omega)
  have ln:(zar bs g (ns.take k)).length=k:=by rw[zcB,List.length_take]; omega
  obtain⟨ok,e,_,_⟩:=h.ok k _ hv
  rw[zbT hv,zhw]
  have okv:(ns[k]).ok (zar bs g (ns.take k)).length bs.length:=by rw[ln,← hq]; exact ok
  have w1:∀i:Int,inR (zar bs g (ns.take k)).length i→1≤ws.getD i.toNat 0:=fun i hi=>(h.w1 (i:=i) (by rw[ln] at hi; exact⟨hi.1,by have:=hi.2; omega⟩)).1
  have z:=fw_w s hb hg w1 ns[k] okv
  have l:((ns[k]).fw (zar bs g (ns.take k)) bs g).1≤((ns[k]).fw (zar bs g (ns.take k)) bs g).2:=by
   refine Nd.fw_le (B:=6000) ?_ (hb.mono (by decide)) hg.1 _ okv
   intro p hp
   obtain⟨i,hi,ei⟩:=List.mem_iff_getElem.mp hp
   obtain⟨a,b,c⟩:=s i p (by rw[List.getElem?_eq_getElem hi,ei])
   have:=(h.w1 (i:=i) ⟨by omega,by rw[ln] at hi; omega⟩).2
   rw[Int.toNat_natCast] at this
   exact⟨a,b.mono (by omega),c.mono (by omega)⟩
  intro i p hp
  by_cases hi:i < k
  ·rw[List.getElem?_append_left (by rw[ln]; exact hi)] at hp
   exact s i p hp
  ·have hl:=(List.getElem?_eq_some_iff.mp hp).1
   simp only[List.length_append,List.length_cons,List.length_nil,ln] at hl
   have ei:i=k:=by omega
   subst ei
   rw[List.getElem?_append_right (by rw[ln]; exact Nat.le_refl _),ln,Nat.sub_self] at hp
   simp at hp
   subst hp
   rw[e]
   exact⟨l,z⟩
theorem zqE {q:Int}{ns:List Nd}{ws:List Nat}{bs:List (Int×Int)}{g:Int}(h:zaG q ns ws)(hq:q=bs.length)(hb:Spn 51 bs)(hg:1≤g∧g≤1000000)(k:Nat)(hk:k≤ns.length):Spn 1000 (zar bs g (ns.take k)):=
 Spn.of_w (zpY h hq hb hg k hk) fun i hi=>by
  rw[zcB,List.length_take] at hi
  have:=(h.w1 (i:=i) ⟨by omega,by omega⟩).2
  rwa [Int.toNat_natCast] at this
theorem zhJ {S T:Sto}{n:Nat}{o:Ob}(h:Pre S T)(hn:S.length≤n):Pre S (T.set n o):=fun k u e=>by
 have hk:=(List.getElem?_eq_some_iff.mp e).1
 rw[List.getElem?_set_ne (by omega)]
 exact h k u e
theorem zcs {S T:Sto}(h:Pre S T)(U:Sto):Pre S (T++U):=fun k u e=>zaz (h k u e)
theorem zvS {to te:TDE}{dl:Ev}{S S1 S2:Sto}{Q:DK}{n:Nat}{xs:List D}{y:D}(hto:∀K:DK,K (.ref n) S1→to dl S K)(h:S1[n]?=some (.lst xs))(hte:∀K:DK,K y S2→te dl S1 K)(h2:S2[n]?=some (.lst xs))(hl:xs.length < 1000)(hq:Q .non (S2.set n (.lst (xs++[y])))):zdQ to te dl S Q:=by
 unfold zdQ
 refine hto _ ?_
 simp only[h]
 refine hte _ ?_
 simp only[h2,if_pos hl]
 exact hq
theorem zot (u v:Nd):∃b,eqN 1 u.d v.d=some b:=by cases u <;> cases v <;> exact⟨_,rfl⟩
theorem zqB (u:Nd):eqN 1 u.d u.d=some true:=by cases u <;> simp[Nd.d,eqN,L3.eqT,eqL,eqF]
theorem znG (v:Nd):∀ns:List Nd,∃b,zbW (eqN 1) (ns.map Nd.d) v.d=some b
 | []=>⟨false,rfl⟩
 | u::us=>by
  obtain⟨b,e⟩:=zot u v
  obtain⟨c,e2⟩:=znG v us
  refine⟨b || c,?_⟩
  show (match eqN 1 u.d v.d,zbW (eqN 1) (us.map Nd.d) v.d with | some b,some c=>some (b || c) | _,_=>none)=_
  rw[e,e2]
theorem zpq:∀ns:List Nd,eqL (eqN 1) (ns.map Nd.d) (ns.map Nd.d)=some true
 | []=>rfl
 | u::us=>by
  show (match eqN 1 u.d u.d,eqL (eqN 1) (us.map Nd.d) (us.map Nd.d) with | some b,some c=>some (b && c) | _,_=>none)=_
  rw[zqB,zpq us]
  rfl
def wtD (w:Nat):D:=.int (w:Int)
theorem zwF (q:Nat):zaG q ((List.range q).map fun (k:Nat)=>Nd.unknown (k:Int)) ((List.range q).map fun _=>1):=by
 refine⟨by simp,fun k v hv=>?_⟩
 have hl:=(List.getElem?_eq_some_iff.mp hv).1
 simp only[List.length_map,List.length_range] at hl
 rw[List.getElem?_map,List.getElem?_range hl] at hv
 cases hv
 refine⟨⟨by omega,by omega⟩,?_,Nat.le_refl _,show 1≤16 by decide⟩
 simp[Nd.wt,hl]

theorem zwq {u v:Nd}(h:eqN 1 u.d v.d=some true):u=v:=by
 cases u <;> cases v <;> simp[Nd.d,eqN,L3.eqT,eqL,eqF] at h
 all_goals first | (obtain⟨rfl,rfl⟩:=h; rfl) | (subst h; rfl) | exact absurd h.1 (by decide)
theorem znq (v:Nd):∀ns:List Nd,∃o:Option Nat,zdn (eqN 1) (ns.map Nd.d) v.d=some o∧zbW (eqN 1) (ns.map Nd.d) v.d=some o.isSome∧∀j,o=some j→ns[j]?=some v
 | []=>⟨none,rfl,rfl,fun j h=>by cases h⟩
 | u::us=>by
  obtain⟨b,e⟩:=zot u v
  obtain⟨o,h1,h2,h3⟩:=znq v us
  have f1:zdn (eqN 1) ((u::us).map Nd.d) v.d=(match eqN 1 u.d v.d,zdn (eqN 1) (us.map Nd.d) v.d with | some true,some _=>some (some 0) | some false,some o=>some (o.map (· + 1)) | _,_=>none):=rfl
  have f2:zbW (eqN 1) ((u::us).map Nd.d) v.d=(match eqN 1 u.d v.d,zbW (eqN 1) (us.map Nd.d) v.d with | some b,some c=>some (b || c) | _,_=>none):=rfl
  rw[f1,f2,e,h1,h2]
  cases b with
  | true=>exact⟨some 0,rfl,rfl,fun j hj=>by
    cases hj
    rw[zwq e]
    rfl⟩
  | false=>exact⟨o.map (· + 1),rfl,by cases o <;> rfl,fun j hj=>by
    cases o with
    | none=>cases hj
    | some i=>
     cases hj
     exact h3 i rfl⟩
theorem zqO {v:Nd}{ns:List Nd}{n j:Nat}{to:TDE}{t:TDA}{dl:Ev}{S:Sto}{Q:DK}(hto:∀K:DK,K (.ref n) S→to dl S K)(ht:∀K:List D→Sto→Prop,K [v.d] S→t dl S K)(h:S[n]?=some (.lst (ns.map Nd.d)))(e:zdn (eqN 1) (ns.map Nd.d) v.d=some (some j))(hq:Q (.int (j:Int)) S):zkH 1 to t dl S Q:=by
 unfold zkH
 refine hto _ ⟨by rw[zaC h rfl]; rfl,ht _ ?_⟩
 unfold zjt
 simp only[zaC h rfl,zai,e]
 exact hq
theorem zho {caps:List Nat}{ta:TDA}{te:TDE}{dl:Ev}{S S1:Sto}{Q:DK}{n n':Nat}{xs ys:List D}(g:D→D→D)(hta:∀K:List D→Sto→Prop,K [.ref n,.ref n'] S1→ta dl S K)(h1:S1[n]?=some (.lst xs))(h2:S1[n']?=some (.lst ys))(hl:xs.length≤1000)
  (ht:∀(k:Nat) (x y:D),xs[k]?=some x→ys[k]?=some y→∀(S2:Sto) (K:DK),Pre S1 S2→K (g x y) S2→te (some x::some y::zbz caps dl) S2 K)(hq:Q (.ref S1.length) (S1++[.lst (List.zipWith g xs ys)])):ze7 caps ta te dl S Q:=by
 unfold ze7
 refine hta _ ⟨⟨by rw[zaC h1 rfl]; rfl,by rw[zaC h2 rfl]; rfl⟩,fun k m S2=>S2=S1++[.lst (List.zipWith g (xs.take k) (ys.take k))]∧m + k=min xs.length ys.length,⟨min xs.length ys.length,by simp,by omega⟩,?_⟩
 rintro k m S2 ⟨rfl,hm⟩
 rw[zaC (zcQ h1) rfl,zaC (zcQ h2) rfl]
 dsimp only[zai]
 split
 ·rename_i x y hx hy
  have hk:k < xs.length:=(List.getElem?_eq_some_iff.mp hx).1
  have hk':k < ys.length:=(List.getElem?_eq_some_iff.mp hy).1
  unfold zkK
  refine ht k x y hx hy _ _ Pre.refl.push ?_
  rw[zax]
  refine⟨by simp; omega,m - 1,by omega,?_,by omega⟩
  have e:xs.take (k + 1)=xs.take k++[x]:=by rw[List.take_succ,hx]; rfl
  have e':ys.take (k + 1)=ys.take k++[y]:=by rw[List.take_succ,hy]; rfl
  rw[e,e',List.zipWith_append (by rw[List.length_take,List.length_take]; omega),znS]
  rfl
 ·rename_i no
  have hk:min xs.length ys.length≤k:=by
   by_cases l:k < min xs.length ys.length
   ·exact absurd (List.getElem?_eq_getElem (l:=ys) (i:=k) (by omega)) (no _ _ (List.getElem?_eq_getElem (l:=xs) (i:=k) (by omega)))
   ·omega
  refine⟨by omega,?_⟩
  have e:List.zipWith g (xs.take k) (ys.take k)=List.zipWith g xs ys:=by
   rw[← List.take_zipWith,List.take_of_length_le (by rw[List.length_zipWith]; exact hk)]
  rw[e]
  exact hq
theorem zww {vs:List (Int×Int)}{k:Nat}{i:Int}(h:inR k i):gt (vs.take k) i=gt vs i:=by
 have:=h.1
 have:=h.2
 unfold gt
 rw[List.getD_eq_getElem?_getD,List.getD_eq_getElem?_getD,List.getElem?_take_of_lt (by omega)]
theorem zrW {vs us:List (Int×Int)}{k:Nat}{i:Int}(h:inR k i)(hk:k≤vs.length):gt (vs++us) i=gt vs i:=by
 have:=h.1
 have:=h.2
 unfold gt
 rw[List.getD_eq_getElem?_getD,List.getD_eq_getElem?_getD,List.getElem?_append_left (by omega)]
theorem zis {vs:List (Int×Int)}{k:Nat}{p:Int×Int}(h:vs[k]?=some p):gt vs (k:Int)=p:=by
 unfold gt
 rw[List.getD_eq_getElem?_getD,Int.toNat_natCast,h]
 rfl
theorem Sz.pow' {n:Nat}{i:Int}(h:Sz n i){k:Nat}(hk:1≤k):Sz (n * k) (i ^ k):=by
 unfold Sz at *
 rw[Int.natAbs_pow,Nat.pow_mul]
 exact Nat.pow_lt_pow_left h (by omega)
theorem SzW.spn {ws:List Nat}{vs:List (Int×Int)}(h:SzW ws vs)(hw:∀k:Nat,k < vs.length→ws.getD k 0≤16):Spn 1000 vs:=Spn.of_w h hw
theorem SzW.snoc {ws:List Nat}{vs:List (Int×Int)}{p:Int×Int}(h:SzW ws vs)(h1:p.1≤p.2)(h2:Sz (60 * ws.getD vs.length 0 - 1) p.1)(h3:Sz (60 * ws.getD vs.length 0 - 1) p.2):SzW ws (vs++[p]):=fun k q hq=>by
 by_cases hk:k < vs.length
 ·rw[List.getElem?_append_left hk] at hq
  exact h k q hq
 ·have hl:=(List.getElem?_eq_some_iff.mp hq).1
  simp only[List.length_append,List.length_cons,List.length_nil] at hl
  have ek:k=vs.length:=by omega
  subst ek
  simp at hq
  subst hq
  exact⟨h1,h2,h3⟩
theorem zoY {caps:List Nat}{tl te:TDE}{dl:Ev}{S S1:Sto}{Q:DK}{n:Nat}{o:Ob}(W:Nat→List D→Sto→Prop)(htl:∀K:DK,K (.ref n) S1→tl dl S K)(h1:S1[n]?=some o)(hw:∀k ys S2,W k ys S2→S2[n]?=some o∧S2[S1.length]?=some (.lst ys)∧ys.length=k)(hl:(zai o).length≤1000)(h0:W 0 [] (S1++[.lst []]))
  (ht:∀(k:Nat) (x:D) (ys:List D) (S2:Sto) (K:DK),(zai o)[k]?=some x→W k ys S2→(∀y S3,S3[S1.length]?=some (.lst ys)→W (k + 1) (ys++[y]) (S3.set S1.length (.lst (ys++[y])))→K y S3)→te (some x::zbz caps dl) S2 K)
  (hq:∀ys S2,W (zai o).length ys S2→Q (.ref S1.length) S2)(hL:zbU o=some o:=by rfl):zcj caps tl zcp te dl S Q:=by
 unfold zcj
 refine htl _ ⟨by rw[zaC h1 hL]; rfl,fun k m S2=>(∃ys,W k ys S2)∧m + k=(zai o).length,⟨(zai o).length,⟨_,h0⟩,by omega⟩,?_⟩
 rintro k m S2 ⟨⟨ys,w⟩,hm⟩
 obtain⟨w1,w2,w3⟩:=hw _ _ _ w
 rw[zaC w1 hL]
 dsimp only
 split
 ·rename_i x hx
  have hk:k < (zai o).length:=(List.getElem?_eq_some_iff.mp hx).1
  unfold zdf zcp
  simp only[if_true]
  refine ht k x ys S2 _ hx w fun y S3 e3 w4=>?_
  rw[e3]
  exact⟨by omega,m - 1,by omega,⟨_,w4⟩,by omega⟩
 ·rename_i hx
  have hk:k=(zai o).length:=by
   have:=List.getElem?_eq_none_iff.mp hx
   omega
  exact hq ys S2 (hk ▸ w)
theorem zvs {caps:List Nat}{ta:TDA}{te:TDE}{dl:Ev}{S S1:Sto}{Q:DK}{j:Int}(W:Nat→List D→Sto→Prop)(hta:∀K:List D→Sto→Prop,K [.int j] S1→ta dl S K)(hj:0≤j∧j≤1000)(hw:∀k ys S2,W k ys S2→S2[S1.length]?=some (.lst ys)∧ys.length=k)(h0:W 0 [] (S1++[.lst []]))
  (ht:∀(k:Nat) (ys:List D) (S2:Sto) (K:DK),k < j.toNat→W k ys S2→(∀y S3,S3[S1.length]?=some (.lst ys)→W (k + 1) (ys++[y]) (S3.set S1.length (.lst (ys++[y])))→K y S3)→te (some (.int (k:Int))::zbz caps dl) S2 K)
  (hq:∀ys S2,W j.toNat ys S2→Q (.ref S1.length) S2):zdj caps ta zcp te dl S Q:=by
 unfold zdj
 refine hta _ ⟨⟨by omega,by omega⟩,fun k S2=>k≤j.toNat∧∃ys,W k ys S2,⟨Nat.zero_le _,_,h0⟩,?_⟩
 rintro k S2 ⟨hk,ys,w⟩
 obtain⟨w2,w3⟩:=hw _ _ _ w
 split
 ·rename_i c
  unfold zdf zcp
  simp only[if_true]
  refine ht k ys S2 _ c w fun y S3 e3 w4=>?_
  rw[e3]
  exact⟨by omega,by omega,_,w4⟩
 ·rename_i c
  have hk:k=j.toNat:=by omega
  exact hq ys S2 (hk ▸ w)
theorem zoV {S T:Sto}{n:Nat}{o:Ob}(h:Pre S T)(hn:S.length≤n):Pre S (T.set n o):=fun k u e=>by
 have l:=(List.getElem?_eq_some_iff.mp e).1
 rw[List.getElem?_set_ne (by omega)]
 exact h k u e
theorem zwM {X:Cx}{Z:Zx}{j:Nat}(hr:zaJ j X.A):OpR X (compareOp .NotEq) (upO X.K Z (zbE zkL)):=by rw[zbY]; exact zr2 hr
theorem zuG {n m:Nat}{S:Sto}{Q:DK}{ds es:List D}(h1:S[n]?=some (.lst ds))(h2:S[m]?=some (.lst es))(hl:ds.length=es.length)(hk:∀(k:Nat) (d e:D),ds[k]?=some d→es[k]?=some e→∃a b xs ys,d=.ref a∧e=.ref b∧S[a]?=some (.lst xs)∧S[b]?=some (.lst ys)∧eqL (eqN 1) xs ys=some true)(hq:Q (.bl false) S):zbE zkL (.ref n) (.ref m) S Q:=by
 rw[zbY]
 exact⟨⟨ds,es,h1,h2,hl,hk⟩,hq⟩
theorem zdy {S T:Sto}(h:Pre S T):S.length≤T.length:=by
 rcases Nat.eq_zero_or_pos S.length with e | e
 ·omega
 ·have z:=h (S.length - 1) _ (List.getElem?_eq_getElem (show S.length - 1 < S.length by omega))
  have:=(List.getElem?_eq_some_iff.mp z).1
  omega
theorem zf5 {to te:TDE}{dl:Ev}{S:Sto}{Q:DK}{n:Nat}{xs:List D}(hto:∀K:DK,K (.ref n) S→to dl S K)(h:S[n]?=some (.lst xs))(hte:∀K:DK,(∀(y:D) (S2:Sto),S2[n]?=some (.lst xs)→Q .non (S2.set n (.lst (xs++[y])))→K y S2)→te dl S K)(hl:xs.length < 1000):zdQ to te dl S Q:=by
 unfold zdQ
 refine hto _ ?_
 simp only[h]
 refine hte _ fun y S2 h2 q=>?_
 simp only[h2,if_pos hl]
 exact q
def zaX (S:Sto)(lo:Nat)(ds:List D)(R:List (List (Int×Int))):Prop:=ds.length=R.length∧∀(k:Nat) (d:D) (r:List (Int×Int)),ds[k]?=some d→R[k]?=some r→∃a,d=.ref a∧lo≤a∧S[a]?=some (.lst (r.map frD))
theorem zaX.nil {S:Sto}{lo:Nat}:zaX S lo [] []:=⟨rfl,fun k d r h=>by simp at h⟩
theorem zaX.pre {S T:Sto}{lo:Nat}{ds:List D}{R:List (List (Int×Int))}(h:zaX S lo ds R)(p:Pre S T):zaX T lo ds R:=⟨h.1,fun k d r hd hr=>by
 obtain⟨a,e,l,s⟩:=h.2 k d r hd hr
 exact⟨a,e,l,p _ _ s⟩⟩
theorem zaX.low {S:Sto}{lo lo':Nat}{ds:List D}{R:List (List (Int×Int))}(h:zaX S lo ds R)(l:lo'≤lo):zaX S lo' ds R:=⟨h.1,fun k d r hd hr=>by
 obtain⟨a,e,l,s⟩:=h.2 k d r hd hr
 exact⟨a,e,by omega,s⟩⟩
theorem zaX.keep {S T:Sto}{lo:Nat}{ds:List D}{R:List (List (Int×Int))}(h:zaX S lo ds R)(p:∀(x:Nat) (o:Ob),lo≤x→S[x]?=some o→T[x]?=some o):zaX T lo ds R:=⟨h.1,fun k d r hd hr=>by
 obtain⟨a,e,l,s⟩:=h.2 k d r hd hr
 exact⟨a,e,l,p _ _ l s⟩⟩
theorem zaX.at {S:Sto}{lo:Nat}{ds:List D}{R:List (List (Int×Int))}(h:zaX S lo ds R){i:Int}(hi:inR R.length i):∃a,atI ds i=some (.ref a)∧lo≤a∧S[a]?=some (.lst ((R.getD i.toNat []).map frD)):=by
 obtain⟨h0,h1⟩:=hi
 have hk:i.toNat < R.length:=by omega
 have hk':i.toNat < ds.length:=by rw[h.1]; exact hk
 obtain⟨a,e,l,s⟩:=h.2 i.toNat _ _ (List.getElem?_eq_getElem hk') (List.getElem?_eq_getElem hk)
 refine⟨a,?_,l,?_⟩
 ·have z:=zds (xs:=ds) (j:=i.toNat) (v:=.ref a) (by rw[List.getElem?_eq_getElem hk',e])
  rw[show ((i.toNat:Nat):Int)=i by omega] at z
  exact z
 ·rw[s]
  simp[hk]
theorem zaX.snoc {S:Sto}{lo:Nat}{ds:List D}{R:List (List (Int×Int))}{a:Nat}{r:List (Int×Int)}(h:zaX S lo ds R)(hl:lo≤a)(hs:S[a]?=some (.lst (r.map frD))):zaX S lo (ds++[.ref a]) (R++[r]):=⟨by rw[List.length_append,List.length_append,h.1]; rfl,fun k d r' hd hr=>by
 by_cases hk:k < ds.length
 ·rw[List.getElem?_append_left hk] at hd
  rw[List.getElem?_append_left (by rw[← h.1]; exact hk)] at hr
  exact h.2 k d r' hd hr
 ·have l:=(List.getElem?_eq_some_iff.mp hd).1
  simp only[List.length_append,List.length_cons,List.length_nil] at l
  have ek:k=ds.length:=by omega
  subst ek
  rw[List.getElem?_append_right (Nat.le_refl _),Nat.sub_self] at hd
  rw[h.1,List.getElem?_append_right (Nat.le_refl _),Nat.sub_self] at hr
  cases hd
  cases hr
  exact⟨a,rfl,hl,hs⟩⟩
abbrev gs (sl:List (List (Int×Int)))(i:Int)(l:Nat):Int×Int:=(sl.getD i.toNat []).getD l (0,0)
def zaV (p q:Int×Int)(g:Int):Int×Int:=(mn4 p.1 p.2 q.1 q.2 / g,-(-mx4 p.1 p.2 q.1 q.2 / g))
def zbs (p:Int×Int)(n g:Int):Int×Int:=(zaL p.1 p.2 (n - 1).toNat / g ^ ((n - 1).toNat - 1) * n,-(-za0 p.1 p.2 (n - 1).toNat / g ^ ((n - 1).toNat - 1)) * n)
def Nd.sl (vs:List (Int×Int))(sl:List (List (Int×Int)))(g:Int)(l:Nat):Nd→Int×Int
 | .number _ _=>(0,0)
 | .unknown k=>if (l:Int)=k then (g,g) else (0,0)
 | .plus i j=>((gs sl i l).1 + (gs sl j l).1,(gs sl i l).2 + (gs sl j l).2)
 | .minus i j=>((gs sl i l).1 - (gs sl j l).2,(gs sl i l).2 - (gs sl j l).1)
 | .times i j=>((zaV (gt vs i) (gs sl j l) g).1 + (zaV (gt vs j) (gs sl i l) g).1,(zaV (gt vs i) (gs sl j l) g).2 + (zaV (gt vs j) (gs sl i l) g).2)
 | .power i n=>zaV (zbs (gt vs i) n g) (gs sl i l) g
def zbf (vs:List (Int×Int))(sl:List (List (Int×Int)))(g:Int)(q:Nat)(v:Nd):List (Int×Int):=(List.range q).map fun l=>v.sl vs sl g l
theorem zvg {vs:List (Int×Int)}{sl:List (List (Int×Int))}{g:Int}{q:Nat}{v:Nd}:(zbf vs sl g q v).length=q:=by simp[zbf]
theorem zwj {α:Type}(f:Int×Int→α)(r:List (Int×Int)){q:Nat}(h:r.length=q):r.map f=(List.range q).map fun l=>f (r.getD l (0,0)):=by
 subst h
 refine List.ext_getElem? fun k=>?_
 by_cases hk:k < r.length
 ·rw[List.getElem?_map,List.getElem?_map,List.getElem?_range hk,List.getElem?_eq_getElem hk]
  simp[hk]
 ·rw[List.getElem?_eq_none (by simpa using hk),List.getElem?_eq_none (by simpa using hk)]
theorem zm8 {α:Type}(f:Int×Int→Int×Int→α)(r s:List (Int×Int)){q:Nat}(h:r.length=q)(h':s.length=q):List.zipWith f r s=(List.range q).map fun l=>f (r.getD l (0,0)) (s.getD l (0,0)):=by
 subst h
 refine List.ext_getElem? fun k=>?_
 by_cases hk:k < r.length
 ·rw[List.getElem?_zipWith,List.getElem?_map,List.getElem?_range hk,List.getElem?_eq_getElem hk,List.getElem?_eq_getElem (show k < s.length by omega)]
  simp[hk,show k < s.length by omega]
 ·rw[List.getElem?_eq_none (by rw[List.length_zipWith]; omega),List.getElem?_eq_none (by simpa using hk)]
theorem ztn (x:D)(q:Nat):(List.replicate q [x]).flatten=(List.range q).map fun _=>x:=by
 refine List.ext_getElem? fun k=>?_
 have l:(List.replicate q [x]).flatten=List.replicate q x:=by
  induction q with
  | zero=>rfl
  | succ q ih=>rw[List.replicate_succ,List.flatten_cons,ih]; rfl
 rw[l]
 by_cases hk:k < q
 ·rw[List.getElem?_map,List.getElem?_range hk,List.getElem?_replicate,if_pos hk]
  rfl
 ·rw[List.getElem?_eq_none (by simpa using hk),List.getElem?_eq_none (by simpa using hk)]
theorem zjm (p q:Int×Int){g:Int}(hg:1≤g):(zaV p q g).1≤(zaV p q g).2:=zfO hg (zpa _ _ _ _)
theorem zsd (p:Int×Int){n g:Int}(hn:0≤n)(hg:1≤g):(zbs p n g).1≤(zbs p n g).2:=Int.mul_le_mul_of_nonneg_right (zfO (Int.pow_pos (by omega)) (zni _ _ _)) hn
def zaM (vs:List (Int×Int))(g:Int)(q:Nat)(ns:List Nd):List (List (Int×Int)):=ns.foldl (fun acc v=>acc++[zbf vs acc g q v]) []
theorem zmy (vs:List (Int×Int))(g:Int)(q:Nat)(ns:List Nd)(v:Nd):zaM vs g q (ns++[v])=zaM vs g q ns++[zbf vs (zaM vs g q ns) g q v]:=by
 unfold zaM
 rw[List.foldl_append]
 rfl
theorem zeV (vs:List (Int×Int))(g:Int)(q:Nat)(ns:List Nd):(zaM vs g q ns).length=ns.length:=by
 have z:∀k,k≤ns.length→(zaM vs g q (ns.take k)).length=k:=fun k=>by
  induction k with
  | zero=>intro _; rfl
  | succ k ih=>
   intro hk
   rw[zbT (List.getElem?_eq_getElem (show k < ns.length by omega)),zmy]
   simp[ih (by omega)]
 have:=z ns.length (Nat.le_refl _)
 rwa [List.take_length] at this
def SlW (q:Nat)(ws:List Nat)(sl:List (List (Int×Int))):Prop:=∀(k:Nat) (r:List (Int×Int)),sl[k]?=some r→r.length=q∧∀p∈r,p.1≤p.2∧Sz (64 * ws.getD k 0 - 1) p.1∧Sz (64 * ws.getD k 0 - 1) p.2
theorem SlW.at {q:Nat}{ws:List Nat}{sl:List (List (Int×Int))}(h:SlW q ws sl){i:Int}(hi:inR sl.length i):(sl.getD i.toNat []).length=q∧∀l,l < q→(gs sl i l).1≤(gs sl i l).2∧Sz (64 * ws.getD i.toNat 0 - 1) (gs sl i l).1∧Sz (64 * ws.getD i.toNat 0 - 1) (gs sl i l).2:=by
 obtain⟨h0,h1⟩:=hi
 have hk:i.toNat < sl.length:=by omega
 obtain⟨a,b⟩:=h i.toNat _ (List.getElem?_eq_getElem hk)
 have e:sl.getD i.toNat []=sl[i.toNat]:=by simp[hk]
 refine⟨by rw[e]; exact a,fun l hl=>?_⟩
 have e2:gs sl i l=sl[i.toNat][l]'(by rw[a]; exact hl):=by
  unfold gs
  rw[e]
  simp[show l < sl[i.toNat].length by rw[a]; exact hl]
 rw[e2]
 exact b _ (List.getElem_mem _)
theorem SlW.snoc {q:Nat}{ws:List Nat}{sl:List (List (Int×Int))}{r:List (Int×Int)}(h:SlW q ws sl)(hr:r.length=q)(hp:∀p∈r,p.1≤p.2∧Sz (64 * ws.getD sl.length 0 - 1) p.1∧Sz (64 * ws.getD sl.length 0 - 1) p.2):SlW q ws (sl++[r]):=fun k u hu=>by
 by_cases hk:k < sl.length
 ·rw[List.getElem?_append_left hk] at hu
  exact h k u hu
 ·have l:=(List.getElem?_eq_some_iff.mp hu).1
  simp only[List.length_append,List.length_cons,List.length_nil] at l
  have ek:k=sl.length:=by omega
  subst ek
  rw[List.getElem?_append_right (Nat.le_refl _),Nat.sub_self] at hu
  cases hu
  exact⟨hr,hp⟩
theorem zkU {m n:Nat}{p q:Int×Int}{g:Int}(hg:1≤g)(h1:Sz m p.1)(h2:Sz m p.2)(h3:Sz n q.1)(h4:Sz n q.2):Sz (m + n) (zaV p q g).1∧Sz (m + n) (zaV p q g).2:=
 ⟨(zdi (zdi (h1.mul h3) (h1.mul h4)) (zdi (h2.mul h3) (h2.mul h4))).div hg,zev (zc0 (zc0 (h1.mul h3) (h1.mul h4)) (zc0 (h2.mul h3) (h2.mul h4))) hg⟩
theorem ztE:∀n:Nat,2≤n→n≤6→n≤2 ^ (n - 1):=fun n h1 h2=>by
 have:n=2∨n=3∨n=4∨n=5∨n=6:=by omega
 rcases this with rfl | rfl | rfl | rfl | rfl <;> decide
theorem zi5 {m e:Nat}{x n:Int}(h:Sz m x)(hn:n.natAbs≤2 ^ e)(hp:1≤n.natAbs):Sz (m + e) (x * n):=by
 unfold Sz at *
 rw[Nat.pow_add,Int.natAbs_mul]
 exact Nat.mul_lt_mul_of_lt_of_le h hn (Nat.pow_pos (by decide))
theorem zye {m:Nat}{p:Int×Int}{n g:Int}(hg:1≤g)(n2:2≤n)(n6:n≤6)(h1:Sz m p.1)(h2:Sz m p.2):Sz (m * (n.toNat - 1) + (n.toNat - 1)) (zbs p n g).1∧Sz (m * (n.toNat - 1) + (n.toNat - 1)) (zbs p n g).2:=by
 have en:(n - 1).toNat=n.toNat - 1:=by omega
 have gp:(1:Int)≤g ^ ((n - 1).toNat - 1):=Int.pow_pos (by omega)
 have p1:Sz (m * (n.toNat - 1)) (p.1 ^ (n - 1).toNat):=by rw[en]; exact Sz.pow' h1 (by omega)
 have p2:Sz (m * (n.toNat - 1)) (p.2 ^ (n - 1).toNat):=by rw[en]; exact Sz.pow' h2 (by omega)
 have lo:Sz (m * (n.toNat - 1)) (zaL p.1 p.2 (n - 1).toNat):=by
  unfold zaL
  split
  ·show (0:Int).natAbs < _
   exact Nat.pow_pos (by decide)
  ·exact zdi p1 p2
 have nb:n.natAbs≤2 ^ (n.toNat - 1):=by
  have:=ztE n.toNat (by omega) (by omega)
  omega
 exact⟨zi5 (lo.div gp) nb (by omega),zi5 (zev (zc0 p1 p2) gp) nb (by omega)⟩
theorem sl_ok {q:Nat}{ws:List Nat}{vs:List (Int×Int)}{sl:List (List (Int×Int))}{g:Int}(hs:SzW ws vs)(hl:SlW q ws sl)(hg:1≤g∧g≤1000000)(hv:sl.length≤vs.length)(hw:∀i:Int,inR vs.length i→1≤ws.getD i.toNat 0){l:Nat}(hq:l < q):∀v:Nd,v.ok sl.length q→1≤v.wt ws→(v.sl vs sl g l).1≤(v.sl vs sl g l).2∧Sz (64 * v.wt ws - 2) (v.sl vs sl g l).1∧Sz (64 * v.wt ws - 2) (v.sl vs sl g l).2
 | .number t b,ok,h1=>⟨Int.le_refl _,by show Sz _ 0; exact Nat.pow_pos (by decide),by show Sz _ 0; exact Nat.pow_pos (by decide)⟩
 | .unknown k,ok,h1=>by
  have sg:Sz (64 * Nd.wt ws (.unknown k) - 2) g:=(Sz.of (n:=21) (10 ^ 6) (show g.natAbs≤_ by omega)).mono (by show 21≤64 * 1 - 2; decide)
  show (if (l:Int)=k then (g,g) else (0,0)).1≤(if (l:Int)=k then (g,g) else (0,0)).2∧Sz _ (if (l:Int)=k then (g,g) else (0,0)).1∧Sz _ (if (l:Int)=k then (g,g) else (0,0)).2
  split
  ·exact⟨Int.le_refl _,sg,sg⟩
  ·exact⟨Int.le_refl _,Nat.pow_pos (by decide),Nat.pow_pos (by decide)⟩
 | .plus i j,ok,h1=>by
  have a:=(hl.at ok.1).2 l hq
  have b:=(hl.at ok.2).2 l hq
  have p:=hw i ⟨ok.1.1,by have:=ok.1.2; omega⟩
  have q:=hw j ⟨ok.2.1,by have:=ok.2.2; omega⟩
  refine⟨?_,(a.2.1.add b.2.1).mono (by simp only[Nd.wt]; omega),(a.2.2.add b.2.2).mono (by simp only[Nd.wt]; omega)⟩
  show (gs sl i l).1 + (gs sl j l).1≤(gs sl i l).2 + (gs sl j l).2
  omega
 | .minus i j,ok,h1=>by
  have a:=(hl.at ok.1).2 l hq
  have b:=(hl.at ok.2).2 l hq
  have p:=hw i ⟨ok.1.1,by have:=ok.1.2; omega⟩
  have q:=hw j ⟨ok.2.1,by have:=ok.2.2; omega⟩
  refine⟨?_,(a.2.1.sub b.2.2).mono (by simp only[Nd.wt]; omega),(a.2.2.sub b.2.1).mono (by simp only[Nd.wt]; omega)⟩
  show (gs sl i l).1 - (gs sl j l).2≤(gs sl i l).2 - (gs sl j l).1
  omega
 | .times i j,ok,h1=>by
  have oi:inR vs.length i:=⟨ok.1.1,by have:=ok.1.2; omega⟩
  have oj:inR vs.length j:=⟨ok.2.1,by have:=ok.2.2; omega⟩
  have a:=(hl.at ok.1).2 l hq
  have b:=(hl.at ok.2).2 l hq
  have c:=hs.at oi
  have d:=hs.at oj
  have p:=hw i oi
  have q:=hw j oj
  have z1:=zkU hg.1 c.2.1 c.2.2 b.2.1 b.2.2
  have z2:=zkU hg.1 d.2.1 d.2.2 a.2.1 a.2.2
  refine⟨?_,(z1.1.add z2.1).mono (by simp only[Nd.wt]; omega),(z1.2.add z2.2).mono (by simp only[Nd.wt]; omega)⟩
  have m1:=zjm (gt vs i) (gs sl j l) hg.1
  have m2:=zjm (gt vs j) (gs sl i l) hg.1
  show (zaV (gt vs i) (gs sl j l) g).1 + (zaV (gt vs j) (gs sl i l) g).1≤(zaV (gt vs i) (gs sl j l) g).2 + (zaV (gt vs j) (gs sl i l) g).2
  omega
 | .power i n,ok,h1=>by
  have oi:inR vs.length i:=⟨ok.1.1,by have:=ok.1.2; omega⟩
  have a:=(hl.at ok.1).2 l hq
  have c:=hs.at oi
  have p:=hw i oi
  have n2:=ok.2.1
  have f:=zye hg.1 ok.2.1 ok.2.2 c.2.1 c.2.2
  have z:=zkU hg.1 f.1 f.2 a.2.1 a.2.2
  have hn:(60 * ws.getD i.toNat 0 - 1) * (n.toNat - 1) + (n.toNat - 1) + (64 * ws.getD i.toNat 0 - 1)≤64 * Nd.wt ws (.power i n) - 2:=by
   simp only[Nd.wt]
   generalize ws.getD i.toNat 0=w at p
   obtain⟨k,hk⟩:∃k,n.toNat=k + 2:=⟨n.toNat - 2,by omega⟩
   rw[hk,show k + 2 - 1=k + 1 by omega,Nat.sub_mul,Nat.one_mul]
   have e1:60 * w * (k + 1)=60 * (k * w) + 60 * w:=by rw[Nat.mul_add,Nat.mul_one,Nat.mul_assoc,Nat.mul_comm w k]
   have e2:(k + 2) * w=k * w + 2 * w:=Nat.add_mul ..
   have e3:k + 1≤60 * w * (k + 1):=Nat.le_mul_of_pos_left _ (by omega)
   rw[e2]
   omega
  exact⟨zjm _ _ hg.1,z.1.mono hn,z.2.mono hn⟩
theorem zpF {q:Nat}{ns:List Nd}{ws:List Nat}{vs:List (Int×Int)}{g:Int}(h:zaG q ns ws)(hs:SzW ws vs)(hv:vs.length=ns.length)(hg:1≤g∧g≤1000000):∀k,k≤ns.length→SlW q ws (zaM vs g q (ns.take k)):=fun k=>by
 induction k with
 | zero=>intro _ i p hp; simp[zaM] at hp
 | succ k ih=>
  intro hk
  have hv':=List.getElem?_eq_getElem (show k < ns.length by omega)
  have s:=ih (by omega)
  have ln:(zaM vs g q (ns.take k)).length=k:=by rw[zeV,List.length_take]; omega
  obtain⟨ok,e,p1,_⟩:=h.ok k _ hv'
  rw[zbT hv',zmy]
  refine s.snoc zvg fun p hp=>?_
  obtain⟨l,hl,rfl⟩:=List.mem_map.mp hp
  have z:=sl_ok hs s hg (by omega) (fun i hi=>(h.w1 (by rw[← hv]; exact hi)).1) (List.mem_range.mp hl) ns[k] (by rw[ln]; exact ok) p1
  rw[ln,e]
  exact⟨z.1,z.2.1.mono (by omega),z.2.2.mono (by omega)⟩
theorem zqK {q:Int}{ns:List Nd}{ws:List Nat}{bs:List (Int×Int)}{g:Int}(h:zaG q ns ws)(hq:q=bs.length)(hb:Spn 51 bs)(hg:1≤g∧g≤1000000):SzW ws (zar bs g ns):=by
 have z:=zpY h hq hb hg ns.length (Nat.le_refl _)
 rwa [List.take_length] at z
theorem SlW.spn {q:Nat}{ws:List Nat}{sl:List (List (Int×Int))}(h:SlW q ws sl)(hw:∀k:Nat,k < sl.length→ws.getD k 0≤16):∀i:Int,inR sl.length i→(sl.getD i.toNat []).length=q∧∀l,l < q→(gs sl i l).1≤(gs sl i l).2∧Sz 1100 (gs sl i l).1∧Sz 1100 (gs sl i l).2:=fun i hi=>by
 obtain⟨a,b⟩:=h.at hi
 refine⟨a,fun l hl=>?_⟩
 obtain⟨c,d,e⟩:=b l hl
 have:=hw i.toNat (by have:=hi.1; have:=hi.2; omega)
 exact⟨c,d.mono (by omega),e.mono (by omega)⟩
theorem zhV {caps:List Nat}{ta:TDA}{te:TDE}{dl:Ev}{S S1:Sto}{Q:DK}{n:Nat}{xs:List D}(g:Nat→D→D)(hta:∀K:List D→Sto→Prop,K [.ref n] S1→ta dl S K)(h1:S1[n]?=some (.lst xs))(hl:xs.length≤1000)
  (ht:∀(k:Nat) (x:D),xs[k]?=some x→∀(S2:Sto) (K:DK),Pre S1 S2→K (g k x) S2→te (some (.int (k:Int))::some x::zbz caps dl) S2 K)(hq:Q (.ref S1.length) (S1++[.lst (xs.mapIdx g)])):zf4 caps ta te dl S Q:=by
 unfold zf4
 refine hta _ ⟨by rw[zaC h1 rfl]; rfl,fun k m S2=>S2=S1++[.lst ((xs.take k).mapIdx g)]∧m + k=xs.length,⟨xs.length,by simp,by omega⟩,?_⟩
 rintro k m S2 ⟨rfl,hm⟩
 rw[zaC (zcQ h1) rfl]
 dsimp only[zai]
 split
 ·rename_i x hx
  have hk:k < xs.length:=(List.getElem?_eq_some_iff.mp hx).1
  unfold zkK
  refine ht k x hx _ _ Pre.refl.push ?_
  rw[zax]
  refine⟨by simp; omega,m - 1,by omega,?_,by omega⟩
  have e:xs.take (k + 1)=xs.take k++[x]:=by rw[List.take_succ,hx]; rfl
  rw[e,List.mapIdx_append,List.set_append_right _ _ (Nat.le_refl _)]
  have l:(xs.take k).length=k:=by rw[List.length_take]; omega
  simp[l]
 ·rename_i hx
  have hk:xs.length≤k:=List.getElem?_eq_none_iff.mp hx
  refine⟨by omega,?_⟩
  rw[List.take_of_length_le hk]
  exact hq

def mid (p:Int×Int):Int:=(p.1 + p.2) / 2
def zaW (p:Int×Int):Int×Int:=(mid p,mid p)
def zfb (p q:Int×Int):Int×Int:=(p.1 + q.1,p.2 + q.2)
def zcD (p q:Int×Int):Int×Int:=(p.1 - q.2,p.2 - q.1)
def sumP (g:Int)(us vs:List (Int×Int)):Int×Int:=(List.zip us vs).foldl (fun t z=>zfb t (zaV z.1 z.2 g)) (0,0)
def rwD (r:Bool×Nat):D:=.tup [.str (if r.1 then "zero" else "least"),.int (r.2:Int)]
def eqs (rows:List (Bool×Nat)):List Nat:=rows.filterMap fun r=>if r.1 then some r.2 else none
theorem zqe {caps:List Nat}{tl te:TDE}{tc:TDT}{dl:Ev}{S S1:Sto}{Q:DK}{n:Nat}{o:Ob}(f:D→Option D)(htl:∀K:DK,K (.ref n) S1→tl dl S K)(h1:S1[n]?=some o)(hl:(zai o).length≤1000)
  (hc:∀x∈zai o,∀(S2:Sto) (K:Bool→Sto→Prop),Pre S1 S2→K (f x).isSome S2→tc (some x::zbz caps dl) S2 K)(ht:∀x∈zai o,∀y,f x=some y→∀(S2:Sto) (K:DK),Pre S1 S2→K y S2→te (some x::zbz caps dl) S2 K)(hq:Q (.ref S1.length) (S1++[.lst ((zai o).filterMap f)]))(hL:zbU o=some o:=by rfl):zcj caps tl tc te dl S Q:=by
 unfold zcj
 refine htl _ ⟨by rw[zaC h1 hL]; rfl,fun k m S2=>S2=S1++[.lst (((zai o).take k).filterMap f)]∧m + k=(zai o).length,⟨(zai o).length,by simp,by omega⟩,?_⟩
 rintro k m S2 ⟨rfl,hm⟩
 rw[zaC (zcQ h1) hL]
 dsimp only
 split
 ·rename_i x hx
  have hk:k < (zai o).length:=(List.getElem?_eq_some_iff.mp hx).1
  have e:(zai o).take (k + 1)=(zai o).take k++[x]:=by rw[List.take_succ,hx]; rfl
  unfold zdf
  refine hc x (List.mem_of_getElem? hx) _ _ Pre.refl.push ?_
  cases ef:f x with
  | none=>
   refine zbc ?_
   refine⟨m - 1,by omega,?_,by omega⟩
   rw[e,List.filterMap_append]
   simp[ef]
  | some y=>
   refine zb2 ?_
   refine ht x (List.mem_of_getElem? hx) y ef _ _ Pre.refl.push ?_
   rw[zax]
   have ll:=List.length_filterMap_le f ((zai o).take k)
   refine⟨by rw[List.length_take] at ll; omega,m - 1,by omega,?_,by omega⟩
   rw[e,List.filterMap_append,znS]
   simp[ef]
 ·rename_i hx
  have hk:(zai o).length≤k:=List.getElem?_eq_none_iff.mp hx
  rw[List.take_of_length_le hk]
  exact hq
def zb6 (g:Int)(k c:Nat)(ts:List (Int×Int))(R:List (List (Int×Int))):Int×Int:=zcD (if k=c then (g,g) else (0,0)) (sumP g ts (R.map fun r=>r.getD c (0,0)))
def zbO (g:Int)(box:List (Int×Int))(thin:List (Int×Int))(R:List (List (Int×Int)))(k:Nat)(es:List Int):Int×Int:=
 zfb (zcD (zaW (gt box k)) (sumP g (es.map fun e=>(e,e)) thin)) (sumP g ((List.range box.length).map fun c=>zb6 g k c (es.map fun e=>(e,e)) R) (box.map fun p=>zcD p (zaW p)))
theorem zjj (g:Int)(us vs:List (Int×Int))(k:Nat){u v:Int×Int}(hu:us[k]?=some u)(hv:vs[k]?=some v):sumP g (us.take (k + 1)) (vs.take (k + 1))=zfb (sumP g (us.take k) (vs.take k)) (zaV u v g):=by
 unfold sumP
 have l1:=(List.getElem?_eq_some_iff.mp hu).1
 have l2:=(List.getElem?_eq_some_iff.mp hv).1
 rw[zbT hu,zbT hv,List.zip_append (by rw[List.length_take,List.length_take]; omega),List.foldl_append]
 rfl
theorem zoc (g:Int)(us vs:List (Int×Int)):sumP g (us.take (min us.length vs.length)) (vs.take (min us.length vs.length))=sumP g us vs:=by
 unfold sumP
 congr 1
 show List.zipWith Prod.mk _ _=List.zipWith Prod.mk _ _
 rw[← List.take_zipWith,List.take_of_length_le (by rw[List.length_zipWith]; exact Nat.le_refl _)]
def Bd (B:Nat)(vs:List (Int×Int)):Prop:=∀p∈vs,Sz B p.1∧Sz B p.2
theorem zpE {g:Int}(hg:1≤g){us vs:List (Int×Int)}{A B:Nat}(h1:Bd A us)(h2:Bd B vs):∀k:Nat,k≤us.length→k≤vs.length→Sz (A + B + k + 1) (sumP g (us.take k) (vs.take k)).1∧Sz (A + B + k + 1) (sumP g (us.take k) (vs.take k)).2
 | 0,_,_=>⟨Nat.pow_pos (by decide),Nat.pow_pos (by decide)⟩
 | k + 1,l1,l2=>by
  have hu:=List.getElem?_eq_getElem (show k < us.length by omega)
  have hv:=List.getElem?_eq_getElem (show k < vs.length by omega)
  rw[zjj g us vs k hu hv]
  have ih:=zpE hg h1 h2 k (by omega) (by omega)
  have a:=h1 _ (List.mem_of_getElem? hu)
  have b:=h2 _ (List.mem_of_getElem? hv)
  have m:=zkU hg a.1 a.2 b.1 b.2
  exact⟨(ih.1.add m.1).mono (by omega),(ih.2.add m.2).mono (by omega)⟩
theorem zs5 {g:Int}(hg:1≤g){us vs:List (Int×Int)}{A B:Nat}(h1:Bd A us)(h2:Bd B vs)(l:us.length≤60):Sz (A + B + 61) (sumP g us vs).1∧Sz (A + B + 61) (sumP g us vs).2:=by
 rw[← zoc]
 have z:=zpE hg h1 h2 (min us.length vs.length) (by omega) (by omega)
 exact⟨z.1.mono (by omega),z.2.mono (by omega)⟩

theorem zrm {is:List Nat}{ta:TDA}{tb:TDS}{E:zdg}{dl:Ev}{S:Sto}{n n':Nat}{xs ys:List D}(W:Nat→Ev→Prop)(hta:∀K:List D→Sto→Prop,K [.ref n,.ref n'] S→ta dl S K)(h1:S[n]?=some (.lst xs))(h2:S[n']?=some (.lst ys))(h0:W 0 dl)
  (hb:∀(k:Nat) (x y:D) (dl':Ev) (nx ct:Ev→Sto→Prop),xs[k]?=some x→ys[k]?=some y→W k dl'→(∀dl2,W (k + 1) dl2→nx dl2 S)→tb { nx:=nx,rt:=E.rt,bk:=E.nx,ct:=ct } (zf1 is [x,y] dl') S)(he:∀dl',W (min xs.length ys.length) dl'→E.nx dl' S):zmL is ta tb E dl S:=by
 unfold zmL
 refine hta _ ⟨⟨by rw[zaC h1 rfl]; rfl,by rw[zaC h2 rfl]; rfl⟩,fun k m dl' S'=>S'=S∧W k dl'∧k + m=min xs.length ys.length,⟨min xs.length ys.length,rfl,h0,by simp⟩,?_⟩
 rintro k m dl' S' ⟨rfl,w,hk⟩
 simp only[zaC h1 rfl,zaC h2 rfl,zai]
 split
 ·rename_i x y e1 e2
  have l1:=(List.getElem?_eq_some_iff.mp e1).1
  have l2:=(List.getElem?_eq_some_iff.mp e2).1
  exact hb k x y dl' _ _ e1 e2 w (fun dl2 w2=>⟨m - 1,by omega,rfl,w2,by omega⟩)
 ·rename_i no
  have ek:k=min xs.length ys.length:=by
   by_cases l:k < min xs.length ys.length
   ·exact absurd (List.getElem?_eq_getElem (l:=ys) (i:=k) (by omega)) (no _ _ (List.getElem?_eq_getElem (l:=xs) (i:=k) (by omega)))
   ·omega
  exact⟨ek,he _ (ek ▸ w)⟩

theorem znx {B:Nat}{p:Int×Int}(h1:Sz B p.1)(h2:Sz B p.2):Sz (B + 1) (mid p):=(h1.add h2).div (by decide) |>.mono (by omega)
theorem zqw {B C:Nat}{p q:Int×Int}(hp:Sz B p.1∧Sz B p.2)(hq:Sz C q.1∧Sz C q.2):Sz (max B C + 1) (zcD p q).1∧Sz (max B C + 1) (zcD p q).2:=⟨hp.1.sub hq.2,hp.2.sub hq.1⟩
def zfh (S:Sto)(ds:List D)(M:List (List Int)):Prop:=ds.length=M.length∧∀(k:Nat) (d:D) (r:List Int),ds[k]?=some d→M[k]?=some r→∃a,d=.ref a∧S[a]?=some (.lst (r.map D.int))
theorem zfh.pre {S T:Sto}{ds:List D}{M:List (List Int)}(h:zfh S ds M)(p:Pre S T):zfh T ds M:=⟨h.1,fun k d r hd hr=>by
 obtain⟨a,e,s⟩:=h.2 k d r hd hr
 exact⟨a,e,p _ _ s⟩⟩

theorem zoX {p:Int×Int}(h:p.1≤p.2):p.1≤mid p∧mid p≤p.2:=by unfold mid; omega
theorem zp7 {B:Nat}{bs:List (Int×Int)}(h:Spn B bs):Spn B (bs.map zaW):=fun p hp=>by
 obtain⟨x,hx,rfl⟩:=List.mem_map.mp hp
 obtain⟨a,b,c⟩:=h x hx
 have z:=zoX a
 have s:Sz B (mid x):=by
  unfold Sz at *
  omega
 exact⟨Int.le_refl _,s,s⟩

theorem znM {A B x:Int}(y:Int)(h1:A≤x)(h2:x≤B):min (A * y) (B * y)≤x * y∧x * y≤max (A * y) (B * y):=by
 rcases Int.le_total 0 y with h | h
 ·have a:=Int.mul_le_mul_of_nonneg_right h1 h
  have b:=Int.mul_le_mul_of_nonneg_right h2 h
  omega
 ·have a:=Int.mul_le_mul_of_nonneg_right h1 (show 0≤-y by omega)
  have b:=Int.mul_le_mul_of_nonneg_right h2 (show 0≤-y by omega)
  simp only[Int.mul_neg] at a b
  omega
theorem zpC {A B C D x y:Int}(h1:A≤x)(h2:x≤B)(h3:C≤y)(h4:y≤D):mn4 A B C D≤x * y∧x * y≤mx4 A B C D:=by
 have a:=znM y h1 h2
 have b:=znM A h3 h4
 have c:=znM B h3 h4
 rw[Int.mul_comm C A,Int.mul_comm D A,Int.mul_comm y A] at b
 rw[Int.mul_comm C B,Int.mul_comm D B,Int.mul_comm y B] at c
 unfold mn4 mx4
 omega
theorem zlO {vs:List (Int×Int)}{p:Int×Int}{i:Int}(h:inR vs.length i):gt (vs++[p]) i=gt vs i:=by
 have hk:i.toNat < vs.length:=by
  have:=h.1
  have:=h.2
  omega
 simp only[gt,List.getD_eq_getElem?_getD,List.getElem?_append_left hk]
theorem zih {vs:List (Int×Int)}{p:Int×Int}{k:Nat}(h:vs.length=k):gt (vs++[p]) (k:Int)=p:=by
 subst h
 simp[gt]
def Gd (B:Nat)(vs:List (Int×Int)):Prop:=∀p∈vs,1≤p.2∧Int.gcd p.1 p.2=1∧Sz B p.1∧Sz B p.2
theorem Gd.at {B:Nat}{vs:List (Int×Int)}(h:Gd B vs){i:Int}(hi:inR vs.length i):1≤(gt vs i).2∧Int.gcd (gt vs i).1 (gt vs i).2=1∧Sz B (gt vs i).1∧Sz B (gt vs i).2:=h _ (zdN hi)
theorem Gd.mono {B C:Nat}{vs:List (Int×Int)}(h:Gd B vs)(hc:B≤C):Gd C vs:=fun p hp=>⟨(h p hp).1,(h p hp).2.1,(h p hp).2.2.1.mono hc,(h p hp).2.2.2.mono hc⟩
def Pz (B:Nat)(vs:List (Int×Int)):Prop:=∀p∈vs,1≤p.2∧Sz B p.1∧Sz B p.2
theorem Pz.at {B:Nat}{vs:List (Int×Int)}(h:Pz B vs){i:Int}(hi:inR vs.length i):1≤(gt vs i).2∧Sz B (gt vs i).1∧Sz B (gt vs i).2:=h _ (zdN hi)
def Nd.due (vs ps:List (Int×Int)):Nd→Int×Int
 | .number t b=>(t,b)
 | .unknown k=>gt ps k
 | .plus i j=>((gt vs i).1 * (gt vs j).2 + (gt vs j).1 * (gt vs i).2,(gt vs i).2 * (gt vs j).2)
 | .minus i j=>((gt vs i).1 * (gt vs j).2 - (gt vs j).1 * (gt vs i).2,(gt vs i).2 * (gt vs j).2)
 | .times i j=>((gt vs i).1 * (gt vs j).1,(gt vs i).2 * (gt vs j).2)
 | .power i n=>((gt vs i).1 ^ n.toNat,(gt vs i).2 ^ n.toNat)

def PzW (ws:List Nat)(vs:List (Int×Int)):Prop:=∀(k:Nat) (p:Int×Int),vs[k]?=some p→1≤p.2∧Sz (112 * ws.getD k 0 - 2) p.1∧Sz (112 * ws.getD k 0 - 2) p.2
theorem PzW.at {ws:List Nat}{vs:List (Int×Int)}(h:PzW ws vs){i:Int}(hi:inR vs.length i):1≤(gt vs i).2∧Sz (112 * ws.getD i.toNat 0 - 2) (gt vs i).1∧Sz (112 * ws.getD i.toNat 0 - 2) (gt vs i).2:=by
 obtain⟨h0,h1⟩:=hi
 have hk:i.toNat < vs.length:=by omega
 have e:gt vs i=vs[i.toNat]:=by simp[gt,hk]
 rw[e]
 exact h _ _ (List.getElem?_eq_getElem hk)
theorem due_w {ws:List Nat}{vs ps:List (Int×Int)}(hs:PzW ws vs)(hp:Pz 110 ps)(hw:∀i:Int,inR vs.length i→1≤ws.getD i.toNat 0):∀v:Nd,v.ok vs.length ps.length→1≤(v.due vs ps).2∧Sz (112 * v.wt ws - 2) (v.due vs ps).1∧Sz (112 * v.wt ws - 2) (v.due vs ps).2
 | .number t b,ok=>⟨ok.1.1,(Sz.of (n:=31) (10 ^ 9) ok.2.2).mono (show 31≤112 * 1 - 2 by decide),(Sz.of (n:=31) (10 ^ 9) (by have:=ok.1; show b.natAbs≤_; omega)).mono (show 31≤112 * 1 - 2 by decide)⟩
 | .unknown k,ok=>⟨(hp.at ok).1,(hp.at ok).2.1.mono (show 110≤112 * 1 - 2 by decide),(hp.at ok).2.2.mono (show 110≤112 * 1 - 2 by decide)⟩
 | .plus i j,ok=>by
  have a:=hs.at ok.1
  have b:=hs.at ok.2
  have p:=hw i ok.1
  have q:=hw j ok.2
  exact⟨Int.mul_pos (show 0 < _ by omega) (show 0 < _ by omega),((a.2.1.mul b.2.2).add (b.2.1.mul a.2.2)).mono (by simp only[Nd.wt]; omega),(a.2.2.mul b.2.2).mono (by simp only[Nd.wt]; omega)⟩
 | .minus i j,ok=>by
  have a:=hs.at ok.1
  have b:=hs.at ok.2
  have p:=hw i ok.1
  have q:=hw j ok.2
  exact⟨Int.mul_pos (show 0 < _ by omega) (show 0 < _ by omega),((a.2.1.mul b.2.2).sub (b.2.1.mul a.2.2)).mono (by simp only[Nd.wt]; omega),(a.2.2.mul b.2.2).mono (by simp only[Nd.wt]; omega)⟩
 | .times i j,ok=>by
  have a:=hs.at ok.1
  have b:=hs.at ok.2
  have p:=hw i ok.1
  have q:=hw j ok.2
  exact⟨Int.mul_pos (show 0 < _ by omega) (show 0 < _ by omega),(a.2.1.mul b.2.1).mono (by simp only[Nd.wt]; omega),(a.2.2.mul b.2.2).mono (by simp only[Nd.wt]; omega)⟩
 | .power i n,ok=>by
  have a:=hs.at ok.1
  have p:=hw i ok.1
  have n2:=ok.2.1
  have hn:(112 * ws.getD i.toNat 0 - 2) * n.toNat + 1≤112 * Nd.wt ws (.power i n) - 2:=by
   simp only[Nd.wt]
   rw[Nat.sub_mul]
   have e:112 * ws.getD i.toNat 0 * n.toNat=112 * (n.toNat * ws.getD i.toNat 0):=by rw[Nat.mul_assoc,Nat.mul_comm (ws.getD i.toNat 0)]
   have m1:=Nat.mul_le_mul (Nat.le_refl n.toNat) p
   omega
  exact⟨Int.pow_pos (show 0 < _ by omega),(a.2.1.pow _).mono hn,(a.2.2.pow _).mono hn⟩
def zaq (ps:List (Int×Int))(ns:List Nd):List (Int×Int):=ns.foldl (fun acc v=>acc++[v.due acc ps]) []
theorem zdO (ps:List (Int×Int))(ns:List Nd)(v:Nd):zaq ps (ns++[v])=zaq ps ns++[v.due (zaq ps ns) ps]:=by
 unfold zaq
 rw[List.foldl_append]
 rfl
theorem zcP (ps:List (Int×Int))(ns:List Nd):(zaq ps ns).length=ns.length:=by
 have z:∀k,k≤ns.length→(zaq ps (ns.take k)).length=k:=fun k=>by
  induction k with
  | zero=>intro _; rfl
  | succ k ih=>
   intro hk
   rw[zbT (List.getElem?_eq_getElem (show k < ns.length by omega)),zdO]
   simp[ih (by omega)]
 have y:=z ns.length (Nat.le_refl _)
 rwa [List.take_length] at y
theorem zwJ {ws:List Nat}{vs:List (Int×Int)}{p:Int×Int}{k:Nat}(h:PzW ws vs)(lk:vs.length=k)(hp:1≤p.2∧Sz (112 * ws.getD k 0 - 2) p.1∧Sz (112 * ws.getD k 0 - 2) p.2):PzW ws (vs++[p]):=fun i q hq=>by
 by_cases hi:i < k
 ·rw[List.getElem?_append_left (by omega)] at hq
  exact h i q hq
 ·have hl:=(List.getElem?_eq_some_iff.mp hq).1
  simp only[List.length_append,List.length_cons,List.length_nil,lk] at hl
  have ei:i=k:=by omega
  subst ei
  rw[List.getElem?_append_right (by omega),lk,Nat.sub_self] at hq
  simp at hq
  subst hq
  exact hp
theorem ztv {q:Int}{ns:List Nd}{ws:List Nat}(h:zaG q ns ws){k:Nat}{vs:List (Int×Int)}(hk:k≤ns.length)(lv:vs.length=k):∀i:Int,inR vs.length i→1≤ws.getD i.toNat 0:=fun i hi=>(h.w1 (i:=i) ⟨hi.1,by have:=hi.2; omega⟩).1
theorem zgH {q:Int}{ns:List Nd}{ws:List Nat}{ps:List (Int×Int)}(h:zaG q ns ws)(hq:q=ps.length)(hp:Pz 110 ps):∀k,k≤ns.length→PzW ws (zaq ps (ns.take k)):=by
 intro k
 induction k with
 | zero=>intro _ i p hp; simp[zaq] at hp
 | succ k ih=>
  intro hk
  have hv:=List.getElem?_eq_getElem (show k < ns.length by omega)
  have s:=ih (by omega)
  have ln:(zaq ps (ns.take k)).length=k:=by rw[zcP,List.length_take]; omega
  obtain⟨ok,e,_,_⟩:=h.ok k _ hv
  rw[zbT hv,zdO]
  refine zwJ s ln ?_
  rw[e]
  exact due_w s hp (ztv h (by omega) ln) _ (by rw[ln,← hq]; exact ok)
theorem Pz.of_w {ws:List Nat}{vs:List (Int×Int)}(h:PzW ws vs)(hw:∀k:Nat,k < vs.length→ws.getD k 0≤16):Pz 1800 vs:=fun p hp=>by
 obtain⟨k,hk,e⟩:=List.mem_iff_getElem.mp hp
 obtain⟨a,b,c⟩:=h k p (by rw[List.getElem?_eq_getElem hk,e])
 have:=hw k hk
 exact⟨a,b.mono (by omega),c.mono (by omega)⟩
theorem zdS {p q k:Int}(h:0≤k):min (p * k) (q * k)=min p q * k∧max (p * k) (q * k)=max p q * k:=by
 rcases Int.le_total p q with c | c
 ·have:=Int.mul_le_mul_of_nonneg_right c h
  rw[Int.min_eq_left c,Int.max_eq_right c]
  omega
 ·have:=Int.mul_le_mul_of_nonneg_right c h
  rw[Int.min_eq_right c,Int.max_eq_left c]
  omega
theorem zlk {a b c d p q:Int}(h:0≤p * q):mn4 (a * p) (b * p) (c * q) (d * q)=mn4 a b c d * (p * q)∧mx4 (a * p) (b * p) (c * q) (d * q)=mx4 a b c d * (p * q):=by
 have e:∀x y:Int,x * p * (y * q)=x * y * (p * q):=fun x y=>by grind
 unfold mn4 mx4
 rw[e,e,e,e]
 refine⟨?_,?_⟩
 ·rw[(zdS h).1,(zdS h).1,(zdS h).1]
 ·rw[(zdS h).2,(zdS h).2,(zdS h).2]
theorem ztc {a b p x:Int}{n:Nat}(hn:1≤n)(hp:1≤p)(h1:a * p≤x)(h2:x≤b * p):zaL a b n * p ^ n≤x ^ n∧x ^ n≤za0 a b n * p ^ n:=by
 have pp:0 < p ^ n:=Int.pow_pos (by omega)
 have lo1:zaL a b n≤a ^ n:=by
  unfold zaL
  split
  ·rename_i c; exact zdY c.1 a
  ·omega
 have lo2:zaL a b n≤b ^ n:=by
  unfold zaL
  split
  ·rename_i c; exact zdY c.1 b
  ·omega
 refine zvH hn h1 h2 ?_ ?_ (fun ha hb=>?_) ?_ ?_
 ·rw[Int.mul_pow]; exact Int.mul_le_mul_of_nonneg_right lo1 (by omega)
 ·rw[Int.mul_pow]; exact Int.mul_le_mul_of_nonneg_right lo2 (by omega)
 ·have a0:a < 0:=by
   by_cases c:a < 0
   ·exact c
   ·have:=Int.mul_nonneg (show 0≤a by omega) (show 0≤p by omega)
    omega
  have b0:0 < b:=by
   by_cases c:0 < b
   ·exact c
   ·have:=Int.mul_nonneg (show 0≤-b by omega) (show 0≤p by omega)
    rw[Int.neg_mul] at this
    omega
  have z:zaL a b n≤0:=by
   unfold zaL
   split
   ·exact Int.le_refl _
   ·rename_i c
    have:=zkT (n:=n) (by omega) a0
    omega
  have:=Int.mul_nonneg (show 0≤-zaL a b n by omega) (show 0≤p ^ n by omega)
  rw[Int.neg_mul] at this
  omega
 ·rw[Int.mul_pow]; exact Int.mul_le_mul_of_nonneg_right (by unfold za0; omega) (by omega)
 ·rw[Int.mul_pow]; exact Int.mul_le_mul_of_nonneg_right (by unfold za0; omega) (by omega)
theorem zm1 {m M G X B:Int}(hG:1≤G)(hB:0≤B)(h1:m * B≤X * G)(h2:X * G≤M * B):m / G * B≤X∧X≤-(-M / G) * B:=by
 have a:=Int.mul_le_mul_of_nonneg_right (zfD m (show 0 < G by omega)).1 hB
 have b:=Int.mul_le_mul_of_nonneg_right (zkw M (show 0 < G by omega)).1 hB
 have e1:m / G * G * B=m / G * B * G:=by grind
 have e2:-(-M / G) * G * B=-(-M / G) * B * G:=by grind
 rw[e1] at a
 rw[e2] at b
 exact⟨Int.le_of_mul_le_mul_right (a:=G) (by omega) (by omega),Int.le_of_mul_le_mul_right (a:=G) (by omega) (by omega)⟩
theorem ifNF {c:Prop} [Decidable c] {A B:Prop}(h:c)(b:B):if (!decide c)=true then A else B:=by
 rw[decide_eq_true h]
 exact b
def InW (g:Int)(vs ds:List (Int×Int)):Prop:=∀i:Int,inR ds.length i→(gt vs i).1 * (gt ds i).2≤(gt ds i).1 * g∧(gt ds i).1 * g≤(gt vs i).2 * (gt ds i).2
theorem ztj {vs bs ds ps:List (Int×Int)}{g:Int}{B:Nat}(hg:1≤g)(h:InW g vs ds)(hp:InW g bs ps)(pd:Pz B ds)(pp:Pz B ps):∀v:Nd,v.ok ds.length ps.length→(v.fw vs bs g).1 * (v.due ds ps).2≤(v.due ds ps).1 * g∧(v.due ds ps).1 * g≤(v.fw vs bs g).2 * (v.due ds ps).2
 | .number t b,ok=>⟨(zfD (t * g) (show 0 < b by have:=ok.1.1; omega)).1,(zkw (t * g) (show 0 < b by have:=ok.1.1; omega)).1⟩
 | .unknown k,ok=>hp k ok
 | .plus i j,ok=>by
  have a:=h i ok.1
  have b:=h j ok.2
  have p1:=(pd.at ok.1).1
  have p2:=(pd.at ok.2).1
  simp only[Nd.fw,Nd.due]
  have a1:=Int.mul_le_mul_of_nonneg_right a.1 (show 0≤(gt ds j).2 by omega)
  have a2:=Int.mul_le_mul_of_nonneg_right a.2 (show 0≤(gt ds j).2 by omega)
  have b1:=Int.mul_le_mul_of_nonneg_right b.1 (show 0≤(gt ds i).2 by omega)
  have b2:=Int.mul_le_mul_of_nonneg_right b.2 (show 0≤(gt ds i).2 by omega)
  grind
 | .minus i j,ok=>by
  have a:=h i ok.1
  have b:=h j ok.2
  have p1:=(pd.at ok.1).1
  have p2:=(pd.at ok.2).1
  simp only[Nd.fw,Nd.due]
  have a1:=Int.mul_le_mul_of_nonneg_right a.1 (show 0≤(gt ds j).2 by omega)
  have a2:=Int.mul_le_mul_of_nonneg_right a.2 (show 0≤(gt ds j).2 by omega)
  have b1:=Int.mul_le_mul_of_nonneg_right b.1 (show 0≤(gt ds i).2 by omega)
  have b2:=Int.mul_le_mul_of_nonneg_right b.2 (show 0≤(gt ds i).2 by omega)
  grind
 | .times i j,ok=>by
  have a:=h i ok.1
  have b:=h j ok.2
  have p1:=(pd.at ok.1).1
  have p2:=(pd.at ok.2).1
  have pq:0≤(gt ds i).2 * (gt ds j).2:=Int.mul_nonneg (by omega) (by omega)
  have z:=zpC a.1 a.2 b.1 b.2
  rw[(zlk pq).1,(zlk pq).2] at z
  have e:(gt ds i).1 * g * ((gt ds j).1 * g)=(gt ds i).1 * (gt ds j).1 * g * g:=by grind
  rw[e] at z
  exact zm1 hg pq z.1 z.2
 | .power i n,ok=>by
  have a:=h i ok.1
  have p1:=(pd.at ok.1).1
  have n2:=ok.2.1
  obtain⟨k,hk⟩:∃k,n.toNat=k + 1:=⟨n.toNat - 1,by omega⟩
  have z:=ztc (n:=n.toNat) (by omega) p1 a.1 a.2
  have e:((gt ds i).1 * g) ^ n.toNat=(gt ds i).1 ^ n.toNat * g * g ^ (n.toNat - 1):=by
   rw[Int.mul_pow,hk,Nat.add_sub_cancel,Int.pow_succ g k]
   grind
  rw[e] at z
  exact zm1 (Int.pow_pos (by omega)) (Int.le_of_lt (Int.pow_pos (by omega))) z.1 z.2
theorem zoB {q:Int}{ns:List Nd}{ws:List Nat}{bs ps:List (Int×Int)}{g:Int}(h:zaG q ns ws)(hq:q=bs.length)(hqp:q=ps.length)(hg:1≤g)(hp:InW g bs ps)(pp:Pz 110 ps):∀k,k≤ns.length→InW g (zar bs g (ns.take k)) (zaq ps (ns.take k)):=by
 intro k
 induction k with
 | zero=>intro _ i hi; exact absurd hi.2 (by have:=hi.1; simp[zaq]; omega)
 | succ k ih=>
  intro hk i hi
  have hv:ns[k]?=some ns[k]:=List.getElem?_eq_getElem (by omega)
  obtain⟨ok,_⟩:=h.ok k _ hv
  have ln:(zar bs g (ns.take k)).length=k:=by rw[zcB,List.length_take]; omega
  have lN:(zaq ps (ns.take k)).length=k:=by rw[zcP,List.length_take]; omega
  rw[zbT hv,zdO] at hi
  rw[zbT hv,zhw,zdO]
  have hi2:i < k + 1:=by have:=hi.2; simp only[List.length_append,List.length_cons,List.length_nil,lN] at this; omega
  by_cases c:i < k
  ·rw[zlO (by rw[ln]; exact⟨hi.1,c⟩),zlO (by rw[lN]; exact⟨hi.1,c⟩)]
   exact ih (by omega) i (by rw[lN]; exact⟨hi.1,c⟩)
  ·have e:i=k:=by omega
   subst e
   rw[zih ln,zih lN]
   have pz:Pz 1800 (zaq ps (ns.take k)):=Pz.of_w (zgH h hqp pp k (by omega)) fun j hj=>(h.w1 (i:=j) ⟨by omega,by omega⟩).2
   refine ztj (B:=1800) hg (ih (by omega)) hp pz (fun p hp=>⟨(pp p hp).1,(pp p hp).2.1.mono (by decide),(pp p hp).2.2.mono (by decide)⟩) _ ?_
   rw[lN,← hqp]
   exact ok
def hs:Nat→Int→Int→Int
 | 0,_,_=>0
 | k + 1,x,y=>x * hs k x y + y ^ k
theorem zhg (x y:Int):∀n:Nat,(x - y) * hs n x y=x ^ n - y ^ n
 | 0=>by simp[hs]
 | k + 1=>by
  have z:=zhg x y k
  have e:(x - y) * hs (k + 1) x y=x * ((x - y) * hs k x y) + (x - y) * y ^ k:=by
   show (x - y) * (x * hs k x y + y ^ k)=_
   grind
  rw[e,z,Int.pow_succ,Int.pow_succ]
  grind
theorem zkB (x:Int):∀n:Nat,hs (n + 1) x x=((n + 1:Nat):Int) * x ^ n
 | 0=>by simp[hs]
 | k + 1=>by
  show x * hs (k + 1) x x + x ^ (k + 1)=_
  rw[zkB x k,Int.pow_succ]
  have e:((k + 1 + 1:Nat):Int)=((k + 1:Nat):Int) + 1:=by omega
  rw[e]
  grind
theorem znh (x y g:Int):∀n:Nat,hs (n + 1) (x * g) (y * g)=hs (n + 1) x y * g ^ n
 | 0=>by simp[hs]
 | k + 1=>by
  show x * g * hs (k + 1) (x * g) (y * g) + (y * g) ^ (k + 1)=(x * hs (k + 1) x y + y ^ (k + 1)) * g ^ (k + 1)
  rw[znh x y g k,Int.mul_pow,Int.pow_succ g]
  grind
theorem zry (x y:Int)(n:Nat):hs n x y=hs n y x:=by
 by_cases e:x=y
 ·rw[e]
 ·have a:=zhg x y n
  have b:=zhg y x n
  have c:(x - y) * hs n x y=(x - y) * hs n y x:=by grind
  exact Int.eq_of_mul_eq_mul_left (by omega) c
theorem zp8 (x y:Int)(n:Nat):hs (n + 1) (-x) (-y)=hs (n + 1) x y * (-1) ^ n:=by
 have z:=znh x y (-1) n
 rw[Int.mul_neg_one,Int.mul_neg_one] at z
 exact z
theorem zlP {a b:Int}(h0:0≤a)(h:a≤b):∀n:Nat,a ^ n≤b ^ n
 | 0=>by simp
 | k + 1=>by
  rw[Int.pow_succ,Int.pow_succ]
  exact Int.mul_le_mul (zlP h0 h k) h h0 (Int.pow_nonneg (by omega))
theorem zjl {x y:Int}(hx:0≤x)(hy:0≤y):∀n:Nat,0≤hs n x y
 | 0=>Int.le_refl _
 | k + 1=>Int.add_nonneg (Int.mul_nonneg hx (zjl hx hy k)) (Int.pow_nonneg hy)
theorem zn5 {x y u v:Int}(hx:0≤x)(hy:0≤y)(h1:x≤u)(h2:y≤v):∀n:Nat,hs n x y≤hs n u v
 | 0=>Int.le_refl _
 | k + 1=>Int.add_le_add (Int.mul_le_mul h1 (zn5 hx hy h1 h2 k) (zjl hx hy k) (by omega)) (zlP hy h2 k)
theorem zfR {n:Nat}(x:Int):(-x) ^ n=x ^ n * (-1) ^ n:=by
 rw[← Int.mul_pow,Int.mul_neg_one]
theorem zeb {n:Nat}(h:n % 2=0):(-1:Int) ^ n=1:=by
 obtain⟨k,rfl⟩:∃k,n=2 * k:=⟨n / 2,by omega⟩
 rw[Int.pow_mul]
 show (1:Int) ^ k=1
 exact Int.one_pow
theorem zow {n:Nat}(h:n % 2=1):(-1:Int) ^ n=-1:=by
 obtain⟨k,rfl⟩:∃k,n=2 * k + 1:=⟨n / 2,by omega⟩
 rw[Int.pow_succ,zeb (by omega)]
 rfl
theorem zyg {a b:Int}(ha:0≤a)(hb:0≤b)(m:Nat):(m % 2=0→0≤hs (m + 1) (-a) b∧hs (m + 1) (-a) b≤max (a ^ m) (b ^ m))∧(m % 2=1→-(a ^ m)≤hs (m + 1) (-a) b∧hs (m + 1) (-a) b≤b ^ m):=by
 have pa:0≤a ^ m:=Int.pow_nonneg ha
 have pb:0≤b ^ m:=Int.pow_nonneg hb
 by_cases z:a + b=0
 ·have a0:a=0:=by omega
  have b0:b=0:=by omega
  subst a0 b0
  have e:hs (m + 1) (-0) 0=((m + 1:Nat):Int) * 0 ^ m:=zkB 0 m
  rw[e]
  cases m with
  | zero=>simp
  | succ m=>simp[Int.pow_succ]
 have pos:0 < a + b:=by omega
 have k:=zhg (-a) b (m + 1)
 have e1:(-a) ^ (m + 1)=a ^ (m + 1) * (-1) ^ (m + 1):=zfR a
 have ea:a ^ (m + 1)=a ^ m * a:=Int.pow_succ a m
 have eb:b ^ (m + 1)=b ^ m * b:=Int.pow_succ b m
 have pab:=Int.mul_nonneg pa hb
 have pba:=Int.mul_nonneg pb ha
 have paa:=Int.mul_nonneg pa ha
 have pbb:=Int.mul_nonneg pb hb
 refine⟨fun ev=>?_,fun od=>?_⟩
 ·rw[e1,zow (show (m + 1) % 2=1 by omega)] at k
  have k2:(a + b) * hs (m + 1) (-a) b=a ^ m * a + b ^ m * b:=by grind
  refine⟨?_,?_⟩
  ·have q:0 * (a + b)≤hs (m + 1) (-a) b * (a + b):=by grind
   exact Int.le_of_mul_le_mul_right q pos
  ·have m1:=Int.mul_le_mul_of_nonneg_right (show a ^ m≤max (a ^ m) (b ^ m) by omega) ha
   have m2:=Int.mul_le_mul_of_nonneg_right (show b ^ m≤max (a ^ m) (b ^ m) by omega) hb
   generalize max (a ^ m) (b ^ m)=M at m1 m2
   have q:hs (m + 1) (-a) b * (a + b)≤M * (a + b):=by grind
   exact Int.le_of_mul_le_mul_right q pos
 ·rw[e1,zeb (show (m + 1) % 2=0 by omega)] at k
  have k2:(a + b) * hs (m + 1) (-a) b=b ^ m * b - a ^ m * a:=by grind
  refine⟨?_,?_⟩
  ·have q:-(a ^ m) * (a + b)≤hs (m + 1) (-a) b * (a + b):=by grind
   exact Int.le_of_mul_le_mul_right q pos
  ·have q:hs (m + 1) (-a) b * (a + b)≤b ^ m * (a + b):=by grind
   exact Int.le_of_mul_le_mul_right q pos
theorem ziW {L H x y:Int}(h0:0≤L)(x1:L≤x)(x2:x≤H)(y1:L≤y)(y2:y≤H)(m:Nat):((m + 1:Nat):Int) * L ^ m≤hs (m + 1) x y∧hs (m + 1) x y≤((m + 1:Nat):Int) * H ^ m:=by
 rw[← zkB,← zkB]
 exact⟨zn5 h0 h0 x1 y1 _,zn5 (by omega) (by omega) x2 y2 _⟩
theorem ztZ {L H x y:Int}(x1:L≤x)(x2:x≤H)(y1:L≤y)(y2:y≤H){m:Nat}(hm:1≤m):((m + 1:Nat):Int) * zaL L H m≤hs (m + 1) x y∧hs (m + 1) x y≤((m + 1:Nat):Int) * za0 L H m:=by
 have n0:(0:Int)≤((m + 1:Nat):Int):=by omega
 have up:∀ {u v:Int},u≤v→((m + 1:Nat):Int) * u≤((m + 1:Nat):Int) * v:=fun h=>Int.mul_le_mul_of_nonneg_left h n0
 have lo1:zaL L H m≤L ^ m:=by
  unfold zaL
  split
  ·rename_i c; exact zdY c.1 L
  ·omega
 have lo2:zaL L H m≤H ^ m:=by
  unfold zaL
  split
  ·rename_i c; exact zdY c.1 H
  ·omega
 have hi1:L ^ m≤za0 L H m:=by unfold za0; omega
 have hi2:H ^ m≤za0 L H m:=by unfold za0; omega
 have big:∀ {u:Int},0≤u→u≤((m + 1:Nat):Int) * u:=fun {u} h=>by
  have:=Int.mul_nonneg (show (0:Int)≤(m:Int) by omega) h
  have e:((m + 1:Nat):Int) * u=(m:Int) * u + u:=by
   have:((m + 1:Nat):Int)=(m:Int) + 1:=by omega
   rw[this]; grind
  omega
 -- both not below 0
 have pp:0≤x→0≤y→((m + 1:Nat):Int) * zaL L H m≤hs (m + 1) x y∧hs (m + 1) x y≤((m + 1:Nat):Int) * za0 L H m:=fun hx hy=>by
  have hiH:=(ziW (L:=0) (Int.le_refl _) hx x2 hy y2 m).2
  refine⟨?_,Int.le_trans hiH (up hi2)⟩
  by_cases c:0≤L
  ·exact Int.le_trans (up lo1) (ziW c x1 x2 y1 y2 m).1
  ·have nn:=zjl hx hy (m + 1)
   have z:zaL L H m≤0:=by
    by_cases p:m % 2=0
    ·unfold zaL
     rw[if_pos ⟨p,by omega,by omega⟩]
     exact Int.le_refl _
    ·have:=zkT (n:=m) (by omega) (show L < 0 by omega)
     omega
   have:=up z
   omega
 have mm:x≤0→y≤0→((m + 1:Nat):Int) * zaL L H m≤hs (m + 1) x y∧hs (m + 1) x y≤((m + 1:Nat):Int) * za0 L H m:=fun hx hy=>by
  have top:=(ziW (L:=0) (H:=-L) (x:=-x) (y:=-y) (Int.le_refl _) (by omega) (by omega) (by omega) (by omega) m).2
  have nn:=zjl (x:=-x) (y:=-y) (by omega) (by omega) (m + 1)
  rw[zp8] at top nn
  rw[zfR L] at top
  have low:H≤0→((m + 1:Nat):Int) * (H ^ m * (-1) ^ m)≤hs (m + 1) x y * (-1) ^ m:=fun c=>by
   have z:=(ziW (L:=-H) (H:=-L) (x:=-x) (y:=-y) (by omega) (by omega) (by omega) (by omega) (by omega) m).1
   rw[zp8,zfR H] at z
   exact z
  by_cases p:m % 2=0
  ·rw[zeb p,Int.mul_one,Int.mul_one] at top
   rw[zeb p,Int.mul_one] at nn
   refine⟨?_,Int.le_trans top (up hi1)⟩
   by_cases c:H≤0
   ·have z:=low c
    rw[zeb p,Int.mul_one,Int.mul_one] at z
    exact Int.le_trans (up lo2) z
   ·have z:zaL L H m=0:=by
     unfold zaL
     rw[if_pos ⟨p,by omega,by omega⟩]
    rw[z]
    omega
  ·have p':m % 2=1:=by omega
   rw[zow p'] at top nn low
   have top':((m + 1:Nat):Int) * L ^ m≤hs (m + 1) x y:=by grind
   refine⟨Int.le_trans (up lo1) top',?_⟩
   by_cases c:H≤0
   ·have z:=low c
    have z':hs (m + 1) x y≤((m + 1:Nat):Int) * H ^ m:=by grind
    exact Int.le_trans z' (up hi2)
   ·have:0≤H ^ m:=Int.pow_nonneg (by omega)
    have:=up (show (0:Int)≤za0 L H m by omega)
    omega
 have mix:∀ {x y:Int},L≤x→y≤H→x≤0→0≤y→((m + 1:Nat):Int) * zaL L H m≤hs (m + 1) x y∧hs (m + 1) x y≤((m + 1:Nat):Int) * za0 L H m:=fun {x y} x1 y2 hx hy=>by
  have z:=zyg (a:=-x) (b:=y) (by omega) hy m
  rw[Int.neg_neg] at z
  have ax:=zlP (show (0:Int)≤-x by omega) (show -x≤-L by omega) m
  rw[zfR x,zfR L] at ax
  rw[zfR x] at z
  have by':=zlP hy y2 m
  have pH:0≤H ^ m:=Int.pow_nonneg (by omega)
  by_cases p:m % 2=0
  ·obtain⟨z1,z2⟩:=z.1 p
   rw[zeb p,Int.mul_one] at z2
   rw[zeb p,Int.mul_one,Int.mul_one] at ax
   have zl:zaL L H m=0:=by
    unfold zaL
    rw[if_pos ⟨p,by omega,by omega⟩]
   rw[zl]
   refine⟨by omega,?_⟩
   have:=big (u:=za0 L H m) (by omega)
   omega
  ·have p':m % 2=1:=by omega
   obtain⟨z1,z2⟩:=z.2 p'
   rw[zow p'] at z1 ax
   have ax':L ^ m≤x ^ m:=by grind
   have z1':x ^ m≤hs (m + 1) x y:=by grind
   refine⟨?_,?_⟩
   ·have l0:L ^ m≤0:=by
     rcases Int.lt_or_eq_of_le (show L≤0 by omega) with c | c
     ·have:=zkT (n:=m) p' c
      omega
     ·rw[c,ziR hm]
      exact Int.le_refl _
    have b:=big (u:=-(L ^ m)) (by omega)
    have b':((m + 1:Nat):Int) * L ^ m≤L ^ m:=by grind
    have:=up lo1
    omega
   ·have:=big (u:=za0 L H m) (by omega)
    omega
 rcases Int.le_total 0 x with hx | hx
 ·rcases Int.le_total 0 y with hy | hy
  ·exact pp hx hy
  ·rw[zry]
   exact mix y1 x2 hy hx
 ·rcases Int.le_total 0 y with hy | hy
  ·exact mix x1 y2 hx hy
  ·exact mm hx hy
theorem zoK {a b p:Int}{n:Nat}(hp:1≤p):zaL (a * p) (b * p) n=zaL a b n * p ^ n∧za0 (a * p) (b * p) n=za0 a b n * p ^ n:=by
 have pp:0≤p ^ n:=Int.pow_nonneg (by omega)
 have sgn:∀x:Int,(x * p≤0↔x≤0)∧(0≤x * p↔0≤x):=fun x=>by
  refine⟨⟨fun h=>?_,fun h=>?_⟩,⟨fun h=>?_,fun h=>Int.mul_nonneg h (by omega)⟩⟩
  ·exact Int.le_of_mul_le_mul_right (show x * p≤0 * p by omega) (by omega)
  ·have:=Int.mul_le_mul_of_nonneg_right h (show 0≤p by omega)
   omega
  ·exact Int.le_of_mul_le_mul_right (show 0 * p≤x * p by omega) (by omega)
 unfold zaL za0
 rw[Int.mul_pow,Int.mul_pow,(zdS pp).1,(zdS pp).2]
 refine⟨?_,rfl⟩
 by_cases c:n % 2=0∧a≤0∧0≤b
 ·rw[if_pos c,if_pos ⟨c.1,(sgn a).1.mpr c.2.1,(sgn b).2.mpr c.2.2⟩,Int.zero_mul]
 ·rw[if_neg c,if_neg (fun z=>c ⟨z.1,(sgn a).1.mp z.2.1,(sgn b).2.mp z.2.2⟩)]
def za6:Nat→(Nat→Int)→Int
 | 0,_=>0
 | k + 1,f=>za6 k f + f k
theorem zlW (a b:Int)(m n s:Nat→Int):∀q,za6 q (fun k=>(a * m k + b * n k) * s k)=a * za6 q (fun k=>m k * s k) + b * za6 q (fun k=>n k * s k)
 | 0=>by simp[za6]
 | q + 1=>by
  show za6 q _ + _=a * (za6 q _ + _) + b * (za6 q _ + _)
  rw[zlW a b m n s q]
  grind
theorem zpd (a:Int)(m s:Nat→Int):∀q,za6 q (fun k=>(a * m k) * s k)=a * za6 q (fun k=>m k * s k)
 | 0=>by simp[za6]
 | q + 1=>by
  show za6 q _ + _=a * (za6 q _ + _)
  rw[zpd a m s q]
  grind
def Dif (U:Int)(q:Nat)(s:Nat→Int)(f l:Int×Int)(row:Nat→Int×Int):Prop:=
 ∃(d:Int) (n:Nat→Int),1≤d∧(∀k,k < q→(row k).1 * d≤n k∧n k≤(row k).2 * d)∧(f.1 * l.2 - l.1 * f.2) * U * d=f.2 * l.2 * za6 q (fun k=>n k * s k)
theorem zvB {U:Int}{q:Nat}{s:Nat→Int}{a b c e:Int×Int}{r t:Nat→Int×Int}(h1:Dif U q s a c r)(h2:Dif U q s b e t):
  Dif U q s (a.1 * b.2 + b.1 * a.2,a.2 * b.2) (c.1 * e.2 + e.1 * c.2,c.2 * e.2) (fun k=>((r k).1 + (t k).1,(r k).2 + (t k).2)):=by
 obtain⟨d1,n1,p1,b1,e1⟩:=h1
 obtain⟨d2,n2,p2,b2,e2⟩:=h2
 refine⟨d1 * d2,fun k=>d2 * n1 k + d1 * n2 k,Int.mul_pos (by omega) (by omega),fun k hk=>?_,?_⟩
 ·obtain⟨x1,x2⟩:=b1 k hk
  obtain⟨y1,y2⟩:=b2 k hk
  have u1:=Int.mul_le_mul_of_nonneg_right x1 (show 0≤d2 by omega)
  have u2:=Int.mul_le_mul_of_nonneg_right x2 (show 0≤d2 by omega)
  have v1:=Int.mul_le_mul_of_nonneg_right y1 (show 0≤d1 by omega)
  have v2:=Int.mul_le_mul_of_nonneg_right y2 (show 0≤d1 by omega)
  try dsimp only
  constructor <;> grind
 ·rw[zlW]
  generalize za6 q (fun k=>n1 k * s k)=S1 at e1
  generalize za6 q (fun k=>n2 k * s k)=S2 at e2
  try dsimp only
  grind
theorem zuS {U:Int}{q:Nat}{s:Nat→Int}{a b c e:Int×Int}{r t:Nat→Int×Int}(h1:Dif U q s a c r)(h2:Dif U q s b e t):
  Dif U q s (a.1 * b.2 - b.1 * a.2,a.2 * b.2) (c.1 * e.2 - e.1 * c.2,c.2 * e.2) (fun k=>((r k).1 - (t k).2,(r k).2 - (t k).1)):=by
 obtain⟨d1,n1,p1,b1,e1⟩:=h1
 obtain⟨d2,n2,p2,b2,e2⟩:=h2
 refine⟨d1 * d2,fun k=>d2 * n1 k + -d1 * n2 k,Int.mul_pos (by omega) (by omega),fun k hk=>?_,?_⟩
 ·obtain⟨x1,x2⟩:=b1 k hk
  obtain⟨y1,y2⟩:=b2 k hk
  have u1:=Int.mul_le_mul_of_nonneg_right x1 (show 0≤d2 by omega)
  have u2:=Int.mul_le_mul_of_nonneg_right x2 (show 0≤d2 by omega)
  have v1:=Int.mul_le_mul_of_nonneg_right y1 (show 0≤d1 by omega)
  have v2:=Int.mul_le_mul_of_nonneg_right y2 (show 0≤d1 by omega)
  try dsimp only
  constructor <;> grind
 ·rw[zlW]
  generalize za6 q (fun k=>n1 k * s k)=S1 at e1
  generalize za6 q (fun k=>n2 k * s k)=S2 at e2
  try dsimp only
  grind
theorem zn4 {v r:Int×Int}{g x b n d:Int}(hg:1≤g)(hb:1≤b)(hd:1≤d)(h1:v.1 * b≤x * g)(h2:x * g≤v.2 * b)(h3:r.1 * d≤n)(h4:n≤r.2 * d):(zaV v r g).1 * (b * d)≤x * n∧x * n≤(zaV v r g).2 * (b * d):=by
 have pq:0≤b * d:=Int.mul_nonneg (by omega) (by omega)
 have z:=zpC h1 h2 h3 h4
 rw[(zlk pq).1,(zlk pq).2] at z
 have e:x * g * n=x * n * g:=by grind
 rw[e] at z
 exact zm1 hg pq z.1 z.2
theorem zwR {U g:Int}{q:Nat}{s:Nat→Int}{a b c e v w:Int×Int}{r t:Nat→Int×Int}(hg:1≤g)(h1:Dif U q s a c r)(h2:Dif U q s b e t)(pa:1≤a.2)(pe:1≤e.2)
  (va:v.1 * a.2≤a.1 * g∧a.1 * g≤v.2 * a.2)(we:w.1 * e.2≤e.1 * g∧e.1 * g≤w.2 * e.2):
  Dif U q s (a.1 * b.1,a.2 * b.2) (c.1 * e.1,c.2 * e.2) (fun k=>((zaV v (t k) g).1 + (zaV w (r k) g).1,(zaV v (t k) g).2 + (zaV w (r k) g).2)):=by
 obtain⟨d1,n1,p1,b1,e1⟩:=h1
 obtain⟨d2,n2,p2,b2,e2⟩:=h2
 have q1:(1:Int)≤d1 * d2:=Int.mul_pos (by omega) (by omega)
 have q2:(1:Int)≤a.2 * e.2:=Int.mul_pos (by omega) (by omega)
 refine⟨a.2 * e.2 * (d1 * d2),fun k=>(a.1 * e.2 * d1) * n2 k + (e.1 * a.2 * d2) * n1 k,Int.mul_pos (by omega) (by omega),fun k hk=>?_,?_⟩
 ·obtain⟨x1,x2⟩:=b1 k hk
  obtain⟨y1,y2⟩:=b2 k hk
  have m1:=zn4 hg pa p2 va.1 va.2 y1 y2
  have m2:=zn4 hg pe p1 we.1 we.2 x1 x2
  have f1:(0:Int)≤e.2 * d1:=Int.mul_nonneg (by omega) (by omega)
  have f2:(0:Int)≤a.2 * d2:=Int.mul_nonneg (by omega) (by omega)
  have u1:=Int.mul_le_mul_of_nonneg_right m1.1 f1
  have u2:=Int.mul_le_mul_of_nonneg_right m1.2 f1
  have v1:=Int.mul_le_mul_of_nonneg_right m2.1 f2
  have v2:=Int.mul_le_mul_of_nonneg_right m2.2 f2
  try dsimp only
  generalize zaV v (t k) g=M1 at u1 u2
  generalize zaV w (r k) g=M2 at v1 v2
  clear m1 m2 x1 x2 y1 y2 va we e1 e2
  constructor <;> grind
 ·rw[zlW]
  generalize za6 q (fun k=>n1 k * s k)=S1 at e1
  generalize za6 q (fun k=>n2 k * s k)=S2 at e2
  try dsimp only
  clear b1 b2 va we
  have k1:=congrArg (fun z=>z * (e.1 * b.2 * a.2 * e.2 * d2)) e1
  have k2:=congrArg (fun z=>z * (a.1 * c.2 * a.2 * e.2 * d1)) e2
  try dsimp only at k1 k2
  clear e1 e2
  grind
theorem zse {v:Int×Int}{g x y N:Int}{n:Int}(hg:1≤g)(hN:1≤N)(n2:2≤n)(h1:v.1 * N≤x * g)(h2:x * g≤v.2 * N)(h3:v.1 * N≤y * g)(h4:y * g≤v.2 * N):(zbs v n g).1 * N ^ (n.toNat - 1)≤hs n.toNat x y * g∧hs n.toNat x y * g≤(zbs v n g).2 * N ^ (n.toNat - 1):=by
 obtain⟨m,hm⟩:∃m,n.toNat=m + 2:=⟨n.toNat - 2,by omega⟩
 have en:(n - 1).toNat=m + 1:=by omega
 have nn:n=((m + 1 + 1:Nat):Int):=by omega
 have z:=ztZ h1 h2 h3 h4 (m:=m + 1) (by omega)
 rw[(zoK hN).1,(zoK hN).2,znh] at z
 have gp:(0:Int) < g ^ m:=Int.pow_pos (by omega)
 have np:(0:Int)≤N ^ (m + 1):=Int.pow_nonneg (by omega)
 have l:=(zfD (zaL v.1 v.2 (m + 1)) gp).1
 have u:=(zkw (za0 v.1 v.2 (m + 1)) gp).1
 unfold zbs
 rw[hm,en,show m + 2 - 1=m + 1 by omega,show m + 1 - 1=m by omega]
 have eg:g ^ (m + 1)=g ^ m * g:=Int.pow_succ g m
 rw[eg] at z
 rw[← nn] at z
 have f:(0:Int)≤n * N ^ (m + 1):=Int.mul_nonneg (by omega) np
 have l2:=Int.mul_le_mul_of_nonneg_right l f
 have u2:=Int.mul_le_mul_of_nonneg_right u f
 dsimp only
 generalize zaL v.1 v.2 (m + 1) / g ^ m=A at l2
 generalize -(-za0 v.1 v.2 (m + 1) / g ^ m)=B at u2
 generalize zaL v.1 v.2 (m + 1)=C at l2 z
 generalize za0 v.1 v.2 (m + 1)=D at u2 z
 generalize g ^ m=G at *
 generalize N ^ (m + 1)=M at *
 have z1:=z.1
 have z2:=z.2
 show _≤hs (m + 1 + 1) x y * g∧hs (m + 1 + 1) x y * g≤_
 generalize hs (m + 1 + 1) x y=P at z1 z2
 clear z h1 h2 h3 h4 l u eg
 refine⟨Int.le_of_mul_le_mul_right (a:=G) ?_ gp,Int.le_of_mul_le_mul_right (a:=G) ?_ gp⟩ <;> grind
theorem zxL {U g:Int}{q:Nat}{s:Nat→Int}{a c v:Int×Int}{r:Nat→Int×Int}{n:Int}(hg:1≤g)(n2:2≤n)(h1:Dif U q s a c r)(pa:1≤a.2)(pc:1≤c.2)
  (va:v.1 * a.2≤a.1 * g∧a.1 * g≤v.2 * a.2)(vc:v.1 * c.2≤c.1 * g∧c.1 * g≤v.2 * c.2):
  Dif U q s (a.1 ^ n.toNat,a.2 ^ n.toNat) (c.1 ^ n.toNat,c.2 ^ n.toNat) (fun k=>zaV (zbs v n g) (r k) g):=by
 obtain⟨d1,n1,p1,b1,e1⟩:=h1
 have hN:(1:Int)≤a.2 * c.2:=Int.mul_pos (by omega) (by omega)
 have w1:=Int.mul_le_mul_of_nonneg_right va.1 (show 0≤c.2 by omega)
 have w2:=Int.mul_le_mul_of_nonneg_right va.2 (show 0≤c.2 by omega)
 have w3:=Int.mul_le_mul_of_nonneg_right vc.1 (show 0≤a.2 by omega)
 have w4:=Int.mul_le_mul_of_nonneg_right vc.2 (show 0≤a.2 by omega)
 have fi:=zse (v:=v) (g:=g) (x:=a.1 * c.2) (y:=c.1 * a.2) (N:=a.2 * c.2) (n:=n) hg hN n2 (by grind) (by grind) (by grind) (by grind)
 have np:(1:Int)≤(a.2 * c.2) ^ (n.toNat - 1):=Int.pow_pos (by omega)
 refine⟨(a.2 * c.2) ^ (n.toNat - 1) * d1,fun k=>hs n.toNat (a.1 * c.2) (c.1 * a.2) * n1 k,Int.mul_pos (by omega) (by omega),fun k hk=>?_,?_⟩
 ·obtain⟨x1,x2⟩:=b1 k hk
  exact zn4 hg np p1 fi.1 fi.2 x1 x2
 ·rw[zpd]
  generalize za6 q (fun k=>n1 k * s k)=S1 at e1
  have hm:=zhg (a.1 * c.2) (c.1 * a.2) n.toNat
  rw[Int.mul_pow,Int.mul_pow] at hm
  obtain⟨m,hm'⟩:∃m,n.toNat=m + 1:=⟨n.toNat - 1,by omega⟩
  have eN:a.2 ^ n.toNat * c.2 ^ n.toNat=(a.2 * c.2) ^ (n.toNat - 1) * (a.2 * c.2):=by
   rw[← Int.mul_pow,hm',Nat.add_sub_cancel,Int.pow_succ]
  try dsimp only
  rw[eN]
  generalize (a.2 * c.2) ^ (n.toNat - 1)=M at *
  generalize hs n.toNat (a.1 * c.2) (c.1 * a.2)=P at *
  generalize a.1 ^ n.toNat * c.2 ^ n.toNat=u1 at *
  generalize c.1 ^ n.toNat * a.2 ^ n.toNat=u2 at *
  rw[← hm]
  have k1:=congrArg (fun z=>z * (P * M)) e1
  try dsimp only at k1
  clear b1 w1 w2 w3 w4 fi va vc eN hm e1
  grind
theorem zqV {U:Int}{q:Nat}{s:Nat→Int}{f l:Int×Int}{r t:Nat→Int×Int}(h:Dif U q s f l r)(e:∀k,k < q→r k=t k):Dif U q s f l t:=by
 obtain⟨d,n,p,b,i⟩:=h
 exact⟨d,n,p,fun k hk=>by rw[← e k hk]; exact b k hk,i⟩
theorem zqi (s:Nat→Int):∀q,za6 q (fun k=>0 * s k)=0
 | 0=>rfl
 | q + 1=>by
  show za6 q _ + 0 * s q=0
  rw[zqi s q]
  omega
theorem zo6 (a:Int)(s:Nat→Int)(j:Int):∀q:Nat,za6 q (fun (l:Nat)=>(if (l:Int)=j then a else 0) * s l)=if 0≤j∧j < (q:Int) then a * s j.toNat else 0
 | 0=>by
  rw[if_neg (fun z=>by have:=z.1; have:=z.2; omega)]
  rfl
 | q + 1=>by
  show za6 q _ + (if (q:Int)=j then a else 0) * s q=_
  rw[zo6 a s j q]
  by_cases e:(q:Int)=j
  ·subst e
   rw[if_pos rfl,if_neg (fun z=>by have:=z.2; omega),if_pos ⟨by omega,by omega⟩,Int.toNat_natCast]
   omega
  ·rw[if_neg e,Int.zero_mul,Int.add_zero]
   by_cases c:0≤j∧j < (q:Int)
   ·rw[if_pos c,if_pos ⟨c.1,by have:=c.2; omega⟩]
   ·rw[if_neg c,if_neg (fun z=>c ⟨z.1,by have:=z.2; omega⟩)]
theorem zrG {U:Int}{q:Nat}{s:Nat→Int}(f:Int×Int):Dif U q s f f (fun _=>(0,0)):=by
 refine⟨1,fun _=>0,by decide,fun k hk=>by dsimp only; omega,?_⟩
 rw[zqi]
 grind
theorem zt2 {sl:List (List (Int×Int))}{r:List (Int×Int)}{i:Int}{l:Nat}(h:inR sl.length i):gs (sl++[r]) i l=gs sl i l:=by
 have:=h.1
 have:=h.2
 unfold gs
 rw[List.getD_eq_getElem?_getD (l:=sl++[r]),List.getD_eq_getElem?_getD (l:=sl),List.getElem?_append_left (by omega)]
theorem zup {sl:List (List (Int×Int))}{r:List (Int×Int)}{k l:Nat}(h:sl.length=k):gs (sl++[r]) (k:Int) l=r.getD l (0,0):=by
 unfold gs
 rw[Int.toNat_natCast,List.getD_eq_getElem?_getD (l:=sl++[r]),← h,List.getElem?_append_right (Nat.le_refl _),Nat.sub_self]
 rfl
theorem zvi {vs:List (Int×Int)}{sl:List (List (Int×Int))}{g:Int}{q l:Nat}{v:Nd}(h:l < q):(zbf vs sl g q v).getD l (0,0)=v.sl vs sl g l:=by
 unfold zbf
 rw[List.getD_eq_getElem?_getD,List.getElem?_map,show (List.range q)[l]?=some l from List.getElem?_range h]
 rfl
theorem zut {q:Nat}{ns:List Nd}{ws:List Nat}{bs ps rs:List (Int×Int)}{g U:Int}{s:Nat→Int}(h:zaG q ns ws)(hb:q=bs.length)(hp:q=ps.length)(hr:q=rs.length)(hg:1≤g)(ip:InW g bs ps)(ir:InW g bs rs)(zp:Pz 110 ps)(zr:Pz 110 rs)
  (un:∀j:Int,inR q j→Dif U q s (gt ps j) (gt rs j) (fun l=>if (l:Int)=j then (g,g) else (0,0))):
  ∀k:Nat,k≤ns.length→∀i:Int,inR k i→Dif U q s (gt (zaq ps (ns.take k)) i) (gt (zaq rs (ns.take k)) i) (fun l=>gs (zaM (zar bs g ns) g q (ns.take k)) i l):=by
 intro k
 induction k with
 | zero=>intro _ i hi; exact absurd hi.2 (by have:=hi.1; omega)
 | succ k ih=>
  intro hk i hi
  have hv:ns[k]?=some ns[k]:=List.getElem?_eq_getElem (by omega)
  obtain⟨ok,_⟩:=h.ok k _ hv
  have l1:(zaq ps (ns.take k)).length=k:=by rw[zcP,List.length_take]; omega
  have l2:(zaq rs (ns.take k)).length=k:=by rw[zcP,List.length_take]; omega
  have l3:(zaM (zar bs g ns) g q (ns.take k)).length=k:=by rw[zeV,List.length_take]; omega
  rw[zbT hv,zdO,zdO,zmy]
  by_cases c:i < k
  ·rw[zlO (by rw[l1]; exact⟨hi.1,c⟩),zlO (by rw[l2]; exact⟨hi.1,c⟩)]
   exact zqV (ih (by omega) i ⟨hi.1,c⟩) fun l _=>(zt2 (by rw[l3]; exact⟨hi.1,c⟩)).symm
  ·have e:i=k:=by have:=hi.2; omega
   subst e
   rw[zih l1,zih l2]
   have w16:∀j:Nat,j < (zaq ps (ns.take k)).length→ws.getD j 0≤16:=fun j hj=>(h.w1 (i:=j) ⟨by omega,by omega⟩).2
   have w16':∀j:Nat,j < (zaq rs (ns.take k)).length→ws.getD j 0≤16:=fun j hj=>(h.w1 (i:=j) ⟨by omega,by omega⟩).2
   have p1:Pz 1800 (zaq ps (ns.take k)):=Pz.of_w (zgH h (by rw[hp]) zp k (by omega)) w16
   have p2:Pz 1800 (zaq rs (ns.take k)):=Pz.of_w (zgH h (by rw[hr]) zr k (by omega)) w16'
   have i1:=zoB h (by rw[hb]) (by rw[hp]) hg ip zp k (by omega)
   have i2:=zoB h (by rw[hb]) (by rw[hr]) hg ir zr k (by omega)
   have ev:∀j:Int,inR k j→gt (zar bs g (ns.take k)) j=gt (zar bs g ns) j:=fun j hj=>by
    rw[← zsS bs g ns k (by omega)]
    exact zww hj
   have in1:∀j:Int,inR k j→(gt (zar bs g ns) j).1 * (gt (zaq ps (ns.take k)) j).2≤(gt (zaq ps (ns.take k)) j).1 * g∧(gt (zaq ps (ns.take k)) j).1 * g≤(gt (zar bs g ns) j).2 * (gt (zaq ps (ns.take k)) j).2:=fun j hj=>by
    rw[← ev j hj]
    exact i1 j (by rw[l1]; exact hj)
   have in2:∀j:Int,inR k j→(gt (zar bs g ns) j).1 * (gt (zaq rs (ns.take k)) j).2≤(gt (zaq rs (ns.take k)) j).1 * g∧(gt (zaq rs (ns.take k)) j).1 * g≤(gt (zar bs g ns) j).2 * (gt (zaq rs (ns.take k)) j).2:=fun j hj=>by
    rw[← ev j hj]
    exact i2 j (by rw[l2]; exact hj)
   have q1:∀j:Int,inR k j→1≤(gt (zaq ps (ns.take k)) j).2:=fun j hj=>(p1.at (by rw[l1]; exact hj)).1
   have q2:∀j:Int,inR k j→1≤(gt (zaq rs (ns.take k)) j).2:=fun j hj=>(p2.at (by rw[l2]; exact hj)).1
   have ih':=ih (by omega)
   have row:∀l,l < q→(ns[k]).sl (zar bs g ns) (zaM (zar bs g ns) g q (ns.take k)) g l=gs (zaM (zar bs g ns) g q (ns.take k)++[zbf (zar bs g ns) (zaM (zar bs g ns) g q (ns.take k)) g q ns[k]]) (k:Int) l:=fun l hl=>by
    rw[zup l3,zvi hl]
   refine zqV (r:=fun l=>(ns[k]).sl (zar bs g ns) (zaM (zar bs g ns) g q (ns.take k)) g l) ?_ row
   clear row hv
   generalize ns[k]=v at ok
   cases v with
   | number t b=>exact zrG (t,b)
   | unknown j=>exact un j ok
   | plus a b=>exact zvB (ih' a ok.1) (ih' b ok.2)
   | minus a b=>exact zuS (ih' a ok.1) (ih' b ok.2)
   | times a b=>exact zwR hg (ih' a ok.1) (ih' b ok.2) (q1 a ok.1) (q2 b ok.2) (in1 a ok.1) (in2 b ok.2)
   | power a n=>exact zxL hg ok.2.1 (ih' a ok.1) (q1 a ok.1) (q2 a ok.1) (in1 a ok.1) (in2 a ok.1)
def In (p:Int×Int)(x:Rat):Prop:=(p.1:Rat)≤x∧x≤(p.2:Rat)
theorem ziO {a b g:Rat}(hg:0 < g)(h:g * a≤g * b):a≤b:=by
 by_cases c:a≤b
 ·exact c
 ·have d:b < a:=Rat.not_le.mp c
  have z:=Rat.mul_pos hg (show 0 < a - b by grind)
  grind
theorem zeN {a b:Int}(h:a≤b):(a:Rat)≤(b:Rat):=Rat.intCast_le_intCast.mpr h
theorem In.add {p q:Int×Int}{x y:Rat}(h1:In p x)(h2:In q y):In (zfb p q) (x + y):=by
 obtain⟨a,b⟩:=h1
 obtain⟨c,d⟩:=h2
 refine⟨?_,?_⟩
 ·show ((p.1 + q.1:Int):Rat)≤_
  rw[Rat.intCast_add]; grind
 ·show _≤((p.2 + q.2:Int):Rat)
  rw[Rat.intCast_add]; grind
theorem In.take {p q:Int×Int}{x y:Rat}(h1:In p x)(h2:In q y):In (zcD p q) (x - y):=by
 obtain⟨a,b⟩:=h1
 obtain⟨c,d⟩:=h2
 refine⟨?_,?_⟩
 ·show ((p.1 - q.2:Int):Rat)≤_
  rw[Rat.intCast_sub]; grind
 ·show _≤((p.2 - q.1:Int):Rat)
  rw[Rat.intCast_sub]; grind
theorem zvO {A B C D x y:Rat}(h1:A≤x)(h2:x≤B)(h3:C≤y)(h4:y≤D):(A * C≤x * y∨A * D≤x * y∨B * C≤x * y∨B * D≤x * y)∧(x * y≤A * C∨x * y≤A * D∨x * y≤B * C∨x * y≤B * D):=by
 have m:∀ {u v:Rat},0≤u→0≤v→0≤u * v:=fun a b=>Rat.mul_nonneg a b
 rcases Rat.le_total (a:=0) (b:=y) with hy | hy
 ·have a1:=m (show 0≤x - A by grind) hy
  have a2:=m (show 0≤B - x by grind) hy
  refine⟨?_,?_⟩
  ·rcases Rat.le_total (a:=0) (b:=A) with hA | hA
   ·have:=m hA (show 0≤y - C by grind)
    exact .inl (by grind)
   ·have:=m (show 0≤-A by grind) (show 0≤D - y by grind)
    exact .inr (.inl (by grind))
  ·rcases Rat.le_total (a:=0) (b:=B) with hB | hB
   ·have:=m hB (show 0≤D - y by grind)
    exact .inr (.inr (.inr (by grind)))
   ·have:=m (show 0≤-B by grind) (show 0≤y - C by grind)
    exact .inr (.inr (.inl (by grind)))
 ·have a1:=m (show 0≤x - A by grind) (show 0≤-y by grind)
  have a2:=m (show 0≤B - x by grind) (show 0≤-y by grind)
  refine⟨?_,?_⟩
  ·rcases Rat.le_total (a:=0) (b:=B) with hB | hB
   ·have:=m hB (show 0≤y - C by grind)
    exact .inr (.inr (.inl (by grind)))
   ·have:=m (show 0≤-B by grind) (show 0≤D - y by grind)
    exact .inr (.inr (.inr (by grind)))
  ·rcases Rat.le_total (a:=0) (b:=A) with hA | hA
   ·have:=m hA (show 0≤D - y by grind)
    exact .inr (.inl (by grind))
   ·have:=m (show 0≤-A by grind) (show 0≤y - C by grind)
    exact .inl (by grind)
theorem In.mul {p q:Int×Int}{x y:Rat}{g:Int}(hg:1≤g)(h1:In p x)(h2:In q y):In (zaV p q g) (x * y / (g:Rat)):=by
 have gp:(0:Rat) < (g:Rat):=Rat.intCast_pos.mpr (by omega)
 have ge:(g:Rat) * (x * y / (g:Rat))=x * y:=by grind
 have c:=zvO h1.1 h1.2 h2.1 h2.2
 have lo:((mn4 p.1 p.2 q.1 q.2:Int):Rat)≤x * y:=by
  have t:∀u:Int,mn4 p.1 p.2 q.1 q.2≤u→((mn4 p.1 p.2 q.1 q.2:Int):Rat)≤(u:Rat):=fun u h=>zeN h
  have e1:=t (p.1 * q.1) (by unfold mn4; omega)
  have e2:=t (p.1 * q.2) (by unfold mn4; omega)
  have e3:=t (p.2 * q.1) (by unfold mn4; omega)
  have e4:=t (p.2 * q.2) (by unfold mn4; omega)
  rw[Rat.intCast_mul] at e1 e2 e3 e4
  rcases c.1 with z | z | z | z <;> grind
 have hi:x * y≤((mx4 p.1 p.2 q.1 q.2:Int):Rat):=by
  have t:∀u:Int,u≤mx4 p.1 p.2 q.1 q.2→(u:Rat)≤((mx4 p.1 p.2 q.1 q.2:Int):Rat):=fun u h=>zeN h
  have e1:=t (p.1 * q.1) (by unfold mx4; omega)
  have e2:=t (p.1 * q.2) (by unfold mx4; omega)
  have e3:=t (p.2 * q.1) (by unfold mx4; omega)
  have e4:=t (p.2 * q.2) (by unfold mx4; omega)
  rw[Rat.intCast_mul] at e1 e2 e3 e4
  rcases c.2 with z | z | z | z <;> grind
 refine⟨ziO gp ?_,ziO gp ?_⟩
 ·have z:=zeN (zfD (mn4 p.1 p.2 q.1 q.2) (show 0 < g by omega)).1
  rw[Rat.intCast_mul] at z
  rw[ge]
  show (g:Rat) * ((mn4 p.1 p.2 q.1 q.2 / g:Int):Rat)≤_
  grind
 ·have z:=zeN (zkw (mx4 p.1 p.2 q.1 q.2) (show 0 < g by omega)).1
  rw[Rat.intCast_mul] at z
  rw[ge]
  show _≤(g:Rat) * ((-(-mx4 p.1 p.2 q.1 q.2 / g):Int):Rat)
  grind
def zaB:Nat→(Nat→Rat)→Rat
 | 0,_=>0
 | k + 1,f=>zaB k f + f k
theorem In.sum {g:Int}(hg:1≤g){us vs:List (Int×Int)}{a b:Nat→Rat}(h1:∀(j:Nat) (p:Int×Int),us[j]?=some p→In p (a j))(h2:∀(j:Nat) (p:Int×Int),vs[j]?=some p→In p (b j)):∀k:Nat,k≤us.length→k≤vs.length→In (sumP g (us.take k) (vs.take k)) (zaB k fun j=>a j * b j / (g:Rat))
 | 0,_,_=>⟨Rat.le_refl,Rat.le_refl⟩
 | k + 1,l1,l2=>by
  have hu:=List.getElem?_eq_getElem (show k < us.length by omega)
  have hv:=List.getElem?_eq_getElem (show k < vs.length by omega)
  rw[zjj g us vs k hu hv]
  exact(In.sum hg h1 h2 k (by omega) (by omega)).add ((h1 k _ hu).mul hg (h2 k _ hv))
theorem In.sumP {g:Int}(hg:1≤g){us vs:List (Int×Int)}{a b:Nat→Rat}{n:Nat}(l1:us.length=n)(l2:vs.length=n)(h1:∀(j:Nat) (p:Int×Int),us[j]?=some p→In p (a j))(h2:∀(j:Nat) (p:Int×Int),vs[j]?=some p→In p (b j)):In (sumP g us vs) (zaB n fun j=>a j * b j / (g:Rat)):=by
 have z:=In.sum hg h1 h2 n (by omega) (by omega)
 rw[List.take_of_length_le (by omega),List.take_of_length_le (by omega)] at z
 exact z
theorem zeg {f h:Nat→Rat}:∀n,(∀k,k < n→f k=h k)→zaB n f=zaB n h
 | 0,_=>rfl
 | n + 1,e=>by
  show zaB n f + f n=zaB n h + h n
  rw[zeg n fun k hk=>e k (by omega),e n (by omega)]
theorem zhM (a:Rat)(f:Nat→Rat):∀n,zaB n (fun k=>a * f k)=a * zaB n f
 | 0=>by show (0:Rat)=a * 0; grind
 | n + 1=>by
  show zaB n _ + _=a * (zaB n f + f n)
  rw[zhM a f n]
  grind
theorem zoo (f h:Nat→Rat):∀n,zaB n (fun k=>f k + h k)=zaB n f + zaB n h
 | 0=>by show (0:Rat)=0 + 0; grind
 | n + 1=>by
  show zaB n _ + _=(zaB n f + f n) + (zaB n h + h n)
  rw[zoo f h n]
  grind
theorem zpx (f:Nat→Nat→Rat)(m:Nat):∀n,zaB n (fun k=>zaB m fun j=>f k j)=zaB m fun j=>zaB n fun k=>f k j
 | 0=>by
  show (0:Rat)=zaB m fun _=>0
  have z:∀m,zaB m (fun _=>(0:Rat))=0:=fun m=>by
   induction m with
   | zero=>rfl
   | succ m ih=>show zaB m _ + 0=0; rw[ih]; grind
  rw[z]
 | n + 1=>by
  show zaB n _ + zaB m (fun j=>f n j)=zaB m fun j=>zaB n (fun k=>f k j) + f n j
  rw[zpx f m n,← zoo]
theorem zpP (k:Nat)(w:Nat→Rat):∀n,zaB n (fun l=>(if k=l then 1 else 0) * w l)=if k < n then w k else 0
 | 0=>rfl
 | n + 1=>by
  show zaB n _ + _=_
  rw[zpP k w n]
  by_cases c:k=n
  ·subst c
   rw[if_neg (by omega),if_pos (by omega)]
   simp
   grind
  ·by_cases d:k < n
   ·rw[if_pos d,if_pos (by omega)]
    simp[c]
    grind
   ·rw[if_neg d,if_neg (by omega)]
    simp[c]
    grind
theorem zwY {g m:Rat}(hg:g≠0){q e:Nat}{k:Nat}(hk:k < q)(T y w:Nat→Rat)(s:Nat→Nat→Rat)(rel:∀j,j < e→y j * g=-(zaB q fun l=>s j l * w l)):
  m - (zaB e fun j=>T j * y j / g) + (zaB q fun l=>((if k=l then g else 0) - zaB e fun j=>T j * s j l / g) * w l / g)=m + w k:=by
 have h1:(zaB e fun j=>T j * y j / g)=zaB e fun j=>-(zaB q fun l=>T j * s j l * w l / (g * g)):=by
  refine zeg e fun j hj=>?_
  have r:=rel j hj
  have c:(zaB q fun l=>T j * s j l * w l / (g * g))=T j / (g * g) * zaB q fun l=>s j l * w l:=by
   rw[← zhM]
   exact zeg q fun l _=>by grind
  rw[c]
  generalize zaB q (fun l=>s j l * w l)=A at r
  have e1:y j=-A / g:=by grind
  rw[e1]
  grind
 have h2:(zaB q fun l=>((if k=l then g else 0) - zaB e fun j=>T j * s j l / g) * w l / g)=w k + zaB q fun l=>-(zaB e fun j=>T j * s j l * w l / (g * g)):=by
  have d:=zpP k w q
  rw[if_pos hk] at d
  rw[← d,← zoo]
  refine zeg q fun l _=>?_
  have c:(zaB e fun j=>T j * s j l * w l / (g * g))=w l / (g * g) * g * zaB e fun j=>T j * s j l / g:=by
   rw[← zhM]
   exact zeg e fun j _=>by grind
  rw[c]
  by_cases x:k=l
  ·rw[if_pos x,if_pos x]; grind
  ·rw[if_neg x,if_neg x]; grind
 have n1:∀(n:Nat) (f:Nat→Rat),(zaB n fun j=>-(f j))=-(zaB n f):=fun n f=>by
  have z:=zhM (-1) f n
  have z2:(zaB n fun j=>-(f j))=zaB n fun j=>-1 * f j:=zeg n fun j _=>by grind
  rw[z2,z]
  grind
 rw[h1,h2,n1,n1,zpx (fun j l=>T j * s j l * w l / (g * g)) q e]
 grind
theorem zoA {a b:Int}{x:Int}(hb:1≤b)(h:x * b≤a):(x:Rat)≤(a:Rat) / (b:Rat):=by
 have bp:(0:Rat) < (b:Rat):=Rat.intCast_pos.mpr (by omega)
 refine ziO bp ?_
 have z:=zeN h
 rw[Rat.intCast_mul] at z
 have e:(b:Rat) * ((a:Rat) / (b:Rat))=(a:Rat):=by grind
 rw[e,Rat.mul_comm]
 exact z
theorem zmU {a b:Int}{x:Int}(hb:1≤b)(h:a≤x * b):(a:Rat) / (b:Rat)≤(x:Rat):=by
 have bp:(0:Rat) < (b:Rat):=Rat.intCast_pos.mpr (by omega)
 refine ziO bp ?_
 have z:=zeN h
 rw[Rat.intCast_mul] at z
 have e:(b:Rat) * ((a:Rat) / (b:Rat))=(a:Rat):=by grind
 rw[e,Rat.mul_comm]
 exact z
theorem zvr {x t W:Int}(hW:1≤W)(h:(x:Rat)≤(t:Rat) / (W:Rat)):x * W≤t:=by
 have Wq:(0:Rat) < (W:Rat):=Rat.intCast_pos.mpr (by omega)
 have e:(W:Rat) * ((t:Rat) / (W:Rat))=(t:Rat):=by grind
 have z:=Rat.mul_nonneg (show 0≤(t:Rat) / (W:Rat) - (x:Rat) by grind) (show (0:Rat)≤(W:Rat) by grind)
 refine Rat.intCast_le_intCast.mp ?_
 rw[Rat.intCast_mul]
 generalize (t:Rat) / (W:Rat)=u at *
 grind
theorem zsk {x t W:Int}(hW:1≤W)(h:(t:Rat) / (W:Rat)≤(x:Rat)):t≤x * W:=by
 have Wq:(0:Rat) < (W:Rat):=Rat.intCast_pos.mpr (by omega)
 have e:(W:Rat) * ((t:Rat) / (W:Rat))=(t:Rat):=by grind
 have z:=Rat.mul_nonneg (show 0≤(x:Rat) - (t:Rat) / (W:Rat) by grind) (show (0:Rat)≤(W:Rat) by grind)
 refine Rat.intCast_le_intCast.mp ?_
 rw[Rat.intCast_mul]
 generalize (t:Rat) / (W:Rat)=u at *
 grind
theorem zrb (f:Nat→Int):∀n,((za6 n f:Int):Rat)=zaB n fun k=>(f k:Rat)
 | 0=>rfl
 | n + 1=>by
  show ((za6 n f + f n:Int):Rat)=zaB n (fun k=>(f k:Rat)) + (f n:Rat)
  rw[Rat.intCast_add,zrb f n]
theorem zwt {t u g W:Int}{q:Nat}{s:Nat→Int}{j:Int}(hj:inR q j)(hs:s j.toNat=t - u * W):Dif (g * g * W) q s (t,g * W) (u * W,g * W) (fun l=>if (l:Int)=j then (g,g) else (0,0)):=by
 refine⟨1,fun l=>if (l:Int)=j then g else 0,by decide,fun k hk=>?_,?_⟩
 ·by_cases e:(k:Int)=j
  ·simp only[if_pos e]
   omega
  ·simp only[if_neg e]
   omega
 ·rw[zo6,if_pos (show 0≤j∧j < (q:Int) from hj),hs]
  try dsimp only
  grind
theorem zpf {bs:List (Int×Int)}(f:Int×Int→Int×Int){i:Int}(h:inR bs.length i):gt (bs.map f) i=f (gt bs i):=by
 have h0:=h.1
 have h1:=h.2
 have hk:i.toNat < bs.length:=by omega
 unfold gt
 simp[hk]
theorem zxC {q:Nat}{ns:List Nd}{ws:List Nat}{bs P:List (Int×Int)}{g W:Int}(net:zaG q ns ws)(hb:q=bs.length)(hp:q=P.length)(sb:Spn 51 bs)(hg:1≤g∧g≤1000000)(hW:1≤W∧W≤60)(ip:InW g bs P)(zp:Pz 110 P)(pt:∀j:Int,inR q j→(gt P j).2=g * W)
  {is:List Nat}(his:∀i∈is,i < ns.length)(zero:∀i∈is,(gt (zaq P ns) (i:Int)).1=0){k:Nat}(hk:k < q){es:List Int}(hes:es.length=is.length):
  (zbO g bs (is.map fun (i:Nat)=>gt (zar (bs.map zaW) g ns) i) (is.map fun (i:Nat)=>(zaM (zar bs g ns) g bs.length ns).getD i []) k es).1 * (gt P k).2≤(gt P k).1 * g∧(gt P k).1 * g≤(zbO g bs (is.map fun (i:Nat)=>gt (zar (bs.map zaW) g ns) i) (is.map fun (i:Nat)=>(zaM (zar bs g ns) g bs.length ns).getD i []) k es).2 * (gt P k).2:=by
 have gW:1≤g * W:=Int.mul_pos (by omega) (by omega)
 have gq:(0:Rat) < (g:Rat):=Rat.intCast_pos.mpr (by omega)
 have Wq:(0:Rat) < (W:Rat):=Rat.intCast_pos.mpr (by omega)
 -- the middles as a point
 have gC:∀j:Int,inR q j→gt (bs.map fun p=>(mid p * W,g * W)) j=(mid (gt bs j) * W,g * W):=fun j hj=>zpf _ (by rw[← hb]; exact hj)
 have lC:(bs.map fun p=>(mid p * W,g * W)).length=q:=by rw[List.length_map,hb]
 have mi:∀j:Int,inR q j→(gt bs j).1≤mid (gt bs j)∧mid (gt bs j)≤(gt bs j).2:=fun j hj=>zoX (sb.at (by rw[← hb]; exact hj)).1
 have mulle:∀ {x y:Int},x≤y→x * (g * W)≤y * W * g:=fun {x y} h=>by
  have z:=Int.mul_le_mul_of_nonneg_right h (show 0≤g * W by omega)
  have e:y * W * g=y * (g * W):=by grind
  omega
 have mulge:∀ {x y:Int},x≤y→x * W * g≤y * (g * W):=fun {x y} h=>by
  have z:=Int.mul_le_mul_of_nonneg_right h (show 0≤g * W by omega)
  have e:x * W * g=x * (g * W):=by grind
  omega
 have iC:InW g bs (bs.map fun p=>(mid p * W,g * W)):=fun j hj=>by
  rw[lC] at hj
  rw[gC j hj]
  exact⟨mulle (mi j hj).1,mulge (mi j hj).2⟩
 have iM:InW g (bs.map zaW) (bs.map fun p=>(mid p * W,g * W)):=fun j hj=>by
  rw[lC] at hj
  rw[gC j hj,zpf zaW (by rw[← hb]; exact hj)]
  exact⟨mulle (Int.le_refl _),mulge (Int.le_refl _)⟩
 have zC:Pz 110 (bs.map fun p=>(mid p * W,g * W)):=fun p hp'=>by
  obtain⟨x,hx,rfl⟩:=List.mem_map.mp hp'
  have b:=sb x hx
  have sm:Sz 52 (mid x):=znx b.2.1 b.2.2
  have sw:Sz 7 W:=Sz.of 60 (by omega)
  have sg:Sz 21 g:=Sz.of 1000000 (by omega)
  exact⟨gW,(sm.mul sw).mono (by decide),(sg.mul sw).mono (by decide)⟩
 -- differences
 have un:∀j:Int,inR q j→Dif (g * g * W) q (fun l=>(gt P (l:Int)).1 - mid (gt bs (l:Int)) * W) (gt P j) (gt (bs.map fun p=>(mid p * W,g * W)) j) (fun l=>if (l:Int)=j then (g,g) else (0,0)):=fun j hj=>by
  rw[gC j hj]
  have e:gt P j=((gt P j).1,g * W):=by rw[← pt j hj]
  rw[e]
  have ej:((j.toNat:Nat):Int)=j:=by have:=hj.1; omega
  refine zwt hj ?_
  show (gt P ((j.toNat:Nat):Int)).1 - mid (gt bs ((j.toNat:Nat):Int)) * W=_
  rw[ej]
 have dif:=zut (s:=fun l=>(gt P (l:Int)).1 - mid (gt bs (l:Int)) * W) (U:=g * g * W) net hb hp (by rw[lC]) hg.1 ip iC zp zC un ns.length (Nat.le_refl _)
 rw[List.take_length] at dif
 have thin:=zoB net (bs:=bs.map zaW) (by rw[List.length_map,hb]) (by rw[lC]) hg.1 iM zC ns.length (Nat.le_refl _)
 rw[List.take_length] at thin
 have w16:∀j:Nat,j < ns.length→ws.getD j 0≤16:=fun j hj=>(net.w1 (i:=j) ⟨by omega,by omega⟩).2
 have pzC:Pz 1800 (zaq (bs.map fun p=>(mid p * W,g * W)) ns):=by
  have z:=zgH net (by rw[lC]) zC ns.length (Nat.le_refl _)
  rw[List.take_length] at z
  exact Pz.of_w z fun j hj=>w16 j (by rw[zcP] at hj; exact hj)
 have pzP:Pz 1800 (zaq P ns):=by
  have z:=zgH net (by rw[hp]) zp ns.length (Nat.le_refl _)
  rw[List.take_length] at z
  exact Pz.of_w z fun j hj=>w16 j (by rw[zcP] at hj; exact hj)
 -- the numbers of the slopes
 have ex:∀j:Nat,∃dn:Int×(Nat→Int),∀i,is[j]?=some i→1≤dn.1∧(∀l,l < q→(gs (zaM (zar bs g ns) g q ns) (i:Int) l).1 * dn.1≤dn.2 l∧dn.2 l≤(gs (zaM (zar bs g ns) g q ns) (i:Int) l).2 * dn.1)∧((gt (zaq P ns) (i:Int)).1 * (gt (zaq (bs.map fun p=>(mid p * W,g * W)) ns) (i:Int)).2 - (gt (zaq (bs.map fun p=>(mid p * W,g * W)) ns) (i:Int)).1 * (gt (zaq P ns) (i:Int)).2) * (g * g * W) * dn.1=(gt (zaq P ns) (i:Int)).2 * (gt (zaq (bs.map fun p=>(mid p * W,g * W)) ns) (i:Int)).2 * za6 q (fun l=>dn.2 l * ((gt P (l:Int)).1 - mid (gt bs (l:Int)) * W)):=fun j=>by
  cases e:is[j]? with
  | none=>exact⟨(1,fun _=>0),fun i h=>by cases h⟩
  | some i=>
   have hi:=his i (List.mem_of_getElem? e)
   obtain⟨d,n,h1,h2,h3⟩:=dif (i:Int) ⟨by omega,by omega⟩
   exact⟨(d,n),fun i' h=>by cases h; exact⟨h1,h2,h3⟩⟩
 obtain⟨dn,hdn⟩:=Classical.skolem.mp ex
 -- the numbers themselves
 have yIn:∀(j:Nat) (p:Int×Int),(is.map fun (i:Nat)=>gt (zar (bs.map zaW) g ns) i)[j]?=some p→In p (((gt (zaq (bs.map fun p=>(mid p * W,g * W)) ns) ((is.getD j 0:Nat):Int)).1 * g:Int) / ((gt (zaq (bs.map fun p=>(mid p * W,g * W)) ns) ((is.getD j 0:Nat):Int)).2:Rat)):=fun j p hj=>by
  rw[List.getElem?_map] at hj
  obtain⟨i,hi,rfl⟩:=Option.map_eq_some_iff.mp hj
  have e:is.getD j 0=i:=by rw[List.getD_eq_getElem?_getD,hi]; rfl
  rw[e]
  have him:=his i (List.mem_of_getElem? hi)
  have r:inR ((zaq (bs.map fun p=>(mid p * W,g * W)) ns).length:Nat) (i:Int):=⟨by omega,by rw[zcP]; omega⟩
  have t:=thin (i:Int) r
  have z:=(pzC.at r).1
  exact⟨zoA z t.1,zmU z t.2⟩
 have sIn:∀c:Nat,c < q→∀(j:Nat) (p:Int×Int),((is.map fun (i:Nat)=>(zaM (zar bs g ns) g bs.length ns).getD i []).map fun r=>r.getD c (0,0))[j]?=some p→In p (((dn j).2 c:Rat) / ((dn j).1:Rat)):=fun c hc j p hj=>by
  rw[List.getElem?_map,List.getElem?_map] at hj
  cases e:is[j]? with
  | none=>rw[e] at hj; cases hj
  | some i=>
   rw[e] at hj
   cases hj
   obtain⟨h1,h2,_⟩:=hdn j i e
   obtain⟨h3,h4⟩:=h2 c hc
   rw[← hb]
   have z1:(gs (zaM (zar bs g ns) g q ns) (i:Int) c)=((zaM (zar bs g ns) g q ns).getD i []).getD c (0,0):=by
    unfold gs
    rw[Int.toNat_natCast]
   rw[z1] at h3 h4
   exact⟨zoA h1 h3,zmU h1 h4⟩
 have tIn:∀(j:Nat) (p:Int×Int),(es.map fun e=>(e,e))[j]?=some p→In p ((es.getD j 0:Int):Rat):=fun j p hj=>by
  rw[List.getElem?_map] at hj
  obtain⟨x,hx,rfl⟩:=Option.map_eq_some_iff.mp hj
  have e:es.getD j 0=x:=by rw[List.getD_eq_getElem?_getD,hx]; rfl
  rw[e]
  exact⟨Rat.le_refl,Rat.le_refl⟩
 have lIn:∀(c:Nat) (p:Int×Int),((List.range bs.length).map fun c=>zb6 g k c (es.map fun e=>(e,e)) (is.map fun (i:Nat)=>(zaM (zar bs g ns) g bs.length ns).getD i []))[c]?=some p→In p ((if k=c then (g:Rat) else 0) - zaB is.length fun j=>((es.getD j 0:Int):Rat) * (((dn j).2 c:Rat) / ((dn j).1:Rat)) / (g:Rat)):=fun c p hc=>by
  have hl:=(List.getElem?_eq_some_iff.mp hc).1
  rw[List.length_map,List.length_range] at hl
  rw[List.getElem?_map,show (List.range bs.length)[c]?=some c from List.getElem?_range hl] at hc
  cases hc
  unfold zb6
  refine In.take ?_ (In.sumP hg.1 (n:=is.length) (by rw[List.length_map,hes]) (by rw[List.length_map,List.length_map]) tIn (sIn c (by omega)))
  by_cases x:k=c
  ·rw[if_pos x,if_pos x]
   exact⟨Rat.le_refl,Rat.le_refl⟩
  ·rw[if_neg x,if_neg x]
   exact⟨Rat.le_refl,Rat.le_refl⟩
 have xIn:∀l:Int,inR q l→In (gt bs l) (((gt P l).1:Rat) / (W:Rat)):=fun l hl=>by
  have z:=ip l (by rw[← hp]; exact hl)
  rw[pt l hl] at z
  have c1:(gt bs l).1 * W * g≤(gt P l).1 * g:=by
   have e:(gt bs l).1 * W * g=(gt bs l).1 * (g * W):=by grind
   omega
  have c2:(gt P l).1 * g≤(gt bs l).2 * W * g:=by
   have e:(gt bs l).2 * W * g=(gt bs l).2 * (g * W):=by grind
   omega
  exact⟨zoA hW.1 (Int.le_of_mul_le_mul_right c1 (by omega)),zmU hW.1 (Int.le_of_mul_le_mul_right c2 (by omega))⟩
 have wIn:∀(l:Nat) (p:Int×Int),(bs.map fun p=>zcD p (zaW p))[l]?=some p→In p (((gt P (l:Int)).1:Rat) / (W:Rat) - ((mid (gt bs (l:Int)):Int):Rat)):=fun l p hl=>by
  rw[List.getElem?_map] at hl
  obtain⟨x,hx,rfl⟩:=Option.map_eq_some_iff.mp hl
  have hlt:=(List.getElem?_eq_some_iff.mp hx).1
  have e:gt bs (l:Int)=x:=zis hx
  have z:=xIn (l:Int) ⟨by omega,by omega⟩
  rw[e] at z ⊢
  exact z.take ⟨Rat.le_refl,Rat.le_refl⟩
 have moved:In (zcD (zaW (gt bs (k:Int))) (sumP g (es.map fun e=>(e,e)) (is.map fun (i:Nat)=>gt (zar (bs.map zaW) g ns) i))) (((mid (gt bs (k:Int)):Int):Rat) - zaB is.length fun j=>((es.getD j 0:Int):Rat) * (((gt (zaq (bs.map fun p=>(mid p * W,g * W)) ns) ((is.getD j 0:Nat):Int)).1 * g:Int) / ((gt (zaq (bs.map fun p=>(mid p * W,g * W)) ns) ((is.getD j 0:Nat):Int)).2:Rat)) / (g:Rat)):=
  In.take ⟨Rat.le_refl,Rat.le_refl⟩ (In.sumP hg.1 (n:=is.length) (by rw[List.length_map,hes]) (by rw[List.length_map]) tIn yIn)
 have all:In (zbO g bs (is.map fun (i:Nat)=>gt (zar (bs.map zaW) g ns) i) (is.map fun (i:Nat)=>(zaM (zar bs g ns) g bs.length ns).getD i []) k es) _:=
  moved.add (In.sumP hg.1 (n:=q) (by rw[List.length_map,List.length_range,hb]) (by rw[List.length_map,hb]) lIn wIn)
 have rel:∀j,j < is.length→(((gt (zaq (bs.map fun p=>(mid p * W,g * W)) ns) ((is.getD j 0:Nat):Int)).1 * g:Int) / ((gt (zaq (bs.map fun p=>(mid p * W,g * W)) ns) ((is.getD j 0:Nat):Int)).2:Rat)) * (g:Rat)=-(zaB q fun l=>((dn j).2 l:Rat) / ((dn j).1:Rat) * (((gt P (l:Int)).1:Rat) / (W:Rat) - ((mid (gt bs (l:Int)):Int):Rat))):=fun j hj=>by
  have e:=List.getElem?_eq_getElem hj
  have e0:is.getD j 0=is[j]:=by simp[hj]
  rw[e0]
  have him:=his _ (List.getElem_mem hj)
  obtain⟨d1,_,eq⟩:=hdn j _ e
  have z0:=zero _ (List.getElem_mem hj)
  have rP:inR ((zaq P ns).length:Nat) ((is[j]:Nat):Int):=⟨by omega,by rw[zcP]; omega⟩
  have rC:inR ((zaq (bs.map fun p=>(mid p * W,g * W)) ns).length:Nat) ((is[j]:Nat):Int):=⟨by omega,by rw[zcP]; omega⟩
  have p1:=(pzP.at rP).1
  have p2:=(pzC.at rC).1
  rw[z0] at eq
  generalize (gt (zaq P ns) ((is[j]:Nat):Int)).2=f2 at eq p1
  generalize gt (zaq (bs.map fun p=>(mid p * W,g * W)) ns) ((is[j]:Nat):Int)=L at eq p2
  have c0:=congrArg (fun (z:Int)=>(z:Rat)) eq
  have c2:((f2 * L.2 * za6 q (fun l=>(dn j).2 l * ((gt P (l:Int)).1 - mid (gt bs (l:Int)) * W)):Int):Rat)=(f2:Rat) * (L.2:Rat) * zaB q fun l=>(((dn j).2 l * ((gt P (l:Int)).1 - mid (gt bs (l:Int)) * W):Int):Rat):=by rw[Rat.intCast_mul,Rat.intCast_mul,zrb]
  have c3:(((0 * L.2 - L.1 * f2) * (g * g * W) * (dn j).1:Int):Rat)=-((L.1:Rat) * (f2:Rat)) * ((g:Rat) * (g:Rat) * (W:Rat)) * ((dn j).1:Rat):=by
   rw[Int.zero_mul,Int.zero_sub]
   simp only[Rat.intCast_mul,Rat.intCast_neg]
  have c:=c3.symm.trans (c0.trans c2)
  clear c0 c2 c3
  have sm:(zaB q fun l=>(((dn j).2 l * ((gt P (l:Int)).1 - mid (gt bs (l:Int)) * W):Int):Rat))=(W:Rat) * ((dn j).1:Rat) * zaB q fun l=>((dn j).2 l:Rat) / ((dn j).1:Rat) * (((gt P (l:Int)).1:Rat) / (W:Rat) - ((mid (gt bs (l:Int)):Int):Rat)):=by
   rw[← zhM]
   refine zeg q fun l _=>?_
   have dq:(0:Rat) < ((dn j).1:Rat):=Rat.intCast_pos.mpr (by omega)
   rw[Rat.intCast_mul,Rat.intCast_sub,Rat.intCast_mul]
   grind
  rw[sm] at c
  have f2q:(0:Rat) < (f2:Rat):=Rat.intCast_pos.mpr (by omega)
  have Lq:(0:Rat) < (L.2:Rat):=Rat.intCast_pos.mpr (by omega)
  have dq:(0:Rat) < ((dn j).1:Rat):=Rat.intCast_pos.mpr (by omega)
  generalize zaB q (fun l=>((dn j).2 l:Rat) / ((dn j).1:Rat) * (((gt P (l:Int)).1:Rat) / (W:Rat) - ((mid (gt bs (l:Int)):Int):Rat)))=A at c
  rw[Rat.intCast_mul]
  generalize (f2:Rat)=F2 at *
  generalize (L.1:Rat)=L1 at *
  generalize (L.2:Rat)=L2 at *
  generalize ((dn j).1:Rat)=d at *
  generalize (g:Rat)=G at *
  generalize (W:Rat)=w at *
  clear eq sm
  have k1:F2 * (d * w) * (L2 * A + L1 * G * G)=0:=by grind
  have k2:F2 * (d * w)≠0:=by
   have:=Rat.mul_pos f2q (Rat.mul_pos dq Wq)
   grind
  have k3:L2 * A + L1 * G * G=0:=by
   rcases Rat.mul_eq_zero.mp k1 with z | z
   ·exact absurd z k2
   ·exact z
  grind
 rw[zwY (by grind) hk (fun j=>((es.getD j 0:Int):Rat)) (fun j=>((gt (zaq (bs.map fun p=>(mid p * W,g * W)) ns) ((is.getD j 0:Nat):Int)).1 * g:Int) / ((gt (zaq (bs.map fun p=>(mid p * W,g * W)) ns) ((is.getD j 0:Nat):Int)).2:Rat)) (fun l=>((gt P (l:Int)).1:Rat) / (W:Rat) - ((mid (gt bs (l:Int)):Int):Rat)) (fun j l=>((dn j).2 l:Rat) / ((dn j).1:Rat)) rel] at all
 have e1:((mid (gt bs (k:Int)):Int):Rat) + (((gt P (k:Int)).1:Rat) / (W:Rat) - ((mid (gt bs (k:Int)):Int):Rat))=((gt P (k:Int)).1:Rat) / (W:Rat):=by grind
 rw[e1] at all
 obtain⟨a1,a2⟩:=all
 rw[pt (k:Int) ⟨by omega,by omega⟩]
 have b1:=Int.mul_le_mul_of_nonneg_right (zvr hW.1 a1) (show 0≤g by omega)
 have b2:=Int.mul_le_mul_of_nonneg_right (zsk hW.1 a2) (show 0≤g by omega)
 generalize (zbO g bs (is.map fun (i:Nat)=>gt (zar (bs.map zaW) g ns) i) (is.map fun (i:Nat)=>(zaM (zar bs g ns) g bs.length ns).getD i []) k es)=Z at b1 b2
 constructor <;> grind
theorem zsc (r:Bool×Nat):eqN 1 (rwD r) (rwD r)=some true:=by
 obtain⟨b,n⟩:=r
 cases b <;> simp[rwD,eqN,L3.eqT,eqL,eqF]
theorem zoL:∀rows:List (Bool×Nat),eqL (eqN 1) (rows.map rwD) (rows.map rwD)=some true
 | []=>rfl
 | r::rs=>by
  show (match eqN 1 (rwD r) (rwD r),eqL (eqN 1) (rs.map rwD) (rs.map rwD) with | some b,some c=>some (b && c) | _,_=>none)=_
  rw[zsc,zoL rs]
  rfl
theorem zuN {ns:List Nd}{ws:List Nat}{bs:List (Int×Int)}{g:Int}{is:List Nat}(net:zaG bs.length ns ws)(sb:Spn 51 bs)(hg:1≤g∧g≤1000000)(hi:∀i∈is,i < ns.length):Bd 2000 (is.map fun (i:Nat)=>gt (zar (bs.map zaW) g ns) i):=fun p hp=>by
 obtain⟨i,him,rfl⟩:=List.mem_map.mp hp
 have net2:zaG ((bs.map zaW).length:Nat) ns ws:=by rw[List.length_map]; exact net
 have sp:=zqE net2 rfl (zp7 sb) hg ns.length (Nat.le_refl _)
 rw[List.take_length] at sp
 have z:=sp.at (i:=(i:Int)) ⟨by omega,by rw[zcB]; have:=hi i him; omega⟩
 exact⟨z.2.1.mono (by decide),z.2.2.mono (by decide)⟩
theorem zpw {ns:List Nd}{ws:List Nat}{bs:List (Int×Int)}{g:Int}{is:List Nat}(net:zaG bs.length ns ws)(sb:Spn 51 bs)(hg:1≤g∧g≤1000000)(hi:∀i∈is,i < ns.length):∀r∈(is.map fun (i:Nat)=>(zaM (zar bs g ns) g bs.length ns).getD i []),r.length=bs.length∧Bd 1023 r:=fun r hr=>by
 have szw:=zqK net rfl sb hg
 have slw:SlW bs.length ws (zaM (zar bs g ns) g bs.length ns):=by
  have z:=zpF net szw (zcB _ _ _) hg ns.length (Nat.le_refl _)
  rwa [List.take_length] at z
 obtain⟨i,him,rfl⟩:=List.mem_map.mp hr
 have hin:=hi i him
 have hl:i < (zaM (zar bs g ns) g bs.length ns).length:=by rw[zeV]; exact hin
 have e:(zaM (zar bs g ns) g bs.length ns).getD i []=(zaM (zar bs g ns) g bs.length ns)[i]:=by simp[hl]
 obtain⟨z1,z2⟩:=slw i _ (List.getElem?_eq_getElem hl)
 rw[e]
 have w:=(net.w1 (i:=(i:Int)) ⟨by omega,by omega⟩).2
 rw[Int.toNat_natCast] at w
 exact⟨z1,fun p hp=>⟨(z2 p hp).2.1.mono (by omega),(z2 p hp).2.2.mono (by omega)⟩⟩
theorem zoI {ns:List Nd}{ws:List Nat}{bs:List (Int×Int)}{g:Int}{is:List Nat}(net:zaG bs.length ns ws)(sb:Spn 51 bs)(hg:1≤g∧g≤1000000)(hi:∀i∈is,i < ns.length):∀r∈(is.map fun (i:Nat)=>(zaM (zar bs g ns) g bs.length ns).getD i []),r.length=bs.length∧Bd 2000 r:=fun r hr=>by
 obtain⟨z1,z2⟩:=zpw net sb hg hi r hr
 exact⟨z1,fun p hp=>⟨(z2 p hp).1.mono (by decide),(z2 p hp).2.mono (by decide)⟩⟩
theorem zrE {v:Nd}{ns:List Nd}{n:Nat}{S:Sto}{Q:DK}{o:Option Nat}(h:S[n]?=some (.lst (ns.map Nd.d)))(e:zbW (eqN 1) (ns.map Nd.d) v.d=some o.isSome)(hq:Q (.bl (!o.isSome)) S):zbE (wIn 1 true) v.d (.ref n) S Q:=by
 rw[zbY]
 unfold wIn
 simp only[zaC h rfl,zai,e]
 exact hq
theorem any_some {v:Nd}:∀ {ns:List Nd} {k:Nat},ns[k]?=some v→zbW (eqN 1) (ns.map Nd.d) v.d≠some (none:Option Nat).isSome
 | [],k,h=>by simp at h
 | u::us,0,h=>by
  have e:u=v:=by simpa using h
  subst e
  show (match eqN 1 u.d u.d,zbW (eqN 1) (us.map Nd.d) u.d with | some b,some c=>some (b || c) | _,_=>none)≠_
  obtain⟨c,hc⟩:=znG u us
  rw[zqB,hc]
  simp
 | u::us,k + 1,h=>by
  have ih:=any_some (ns:=us) (k:=k) (by simpa using h)
  show (match eqN 1 u.d v.d,zbW (eqN 1) (us.map Nd.d) v.d with | some b,some c=>some (b || c) | _,_=>none)≠_
  obtain⟨b,hb⟩:=zot u v
  obtain⟨c,hc⟩:=znG v us
  rw[hc] at ih
  rw[hb,hc]
  cases c
  ·exact absurd rfl ih
  ·simp

theorem zqk {vs us ps:List (Int×Int)}{k:Nat}{q:Int}(h:∀i:Int,inR k i→gt vs i=gt us i):∀v:Nd,v.ok k q→v.due vs ps=v.due us ps
 | .number _ _,_=>rfl
 | .unknown _,_=>rfl
 | .plus i j,ok=>by simp only[Nd.due,h i ok.1,h j ok.2]
 | .minus i j,ok=>by simp only[Nd.due,h i ok.1,h j ok.2]
 | .times i j,ok=>by simp only[Nd.due,h i ok.1,h j ok.2]
 | .power i n,ok=>by simp only[Nd.due,h i ok.1]
theorem zoT (P:List (Int×Int))(ns:List Nd):∀ms:List Nd,∃r,zaq P (ns++ms)=zaq P ns++r
 | []=>⟨[],by rw[List.append_nil,List.append_nil]⟩
 | v::ms=>by
  obtain⟨r,e⟩:=zoT P (ns++[v]) ms
  rw[List.append_assoc] at e
  refine⟨v.due (zaq P ns) P::r,?_⟩
  rw[show ns++v::ms=ns++([v]++ms) from rfl,e,zdO,List.append_assoc]
  rfl
theorem zom {P:List (Int×Int)}{ns ms:List Nd}{i:Int}(h:inR ns.length i):gt (zaq P (ns++ms)) i=gt (zaq P ns) i:=by
 obtain⟨r,e⟩:=zoT P ns ms
 rw[e]
 exact zrW (k:=ns.length) h (by rw[zcP]; exact Nat.le_refl _)
theorem zo7 {P:List (Int×Int)}{ns:List Nd}{ws:List Nat}{q:Int}{j:Nat}{v:Nd}(net:zaG q ns ws)(h:ns[j]?=some v):gt (zaq P ns) (j:Int)=v.due (zaq P ns) P:=by
 have hj:=(List.getElem?_eq_some_iff.mp h).1
 have e:ns=ns.take (j + 1)++ns.drop (j + 1):=(List.take_append_drop _ _).symm
 have e2:ns=ns.take j++ns.drop j:=(List.take_append_drop _ _).symm
 have l:(ns.take (j + 1)).length=j + 1:=by rw[List.length_take]; omega
 have lj:(ns.take j).length=j:=by rw[List.length_take]; omega
 have g1:gt (zaq P ns) (j:Int)=gt (zaq P (ns.take (j + 1))) (j:Int):=by
  have z:=zom (P:=P) (ns:=ns.take (j + 1)) (ms:=ns.drop (j + 1)) (i:=(j:Int)) ⟨by omega,by rw[l]; omega⟩
  rw[← e] at z
  exact z
 rw[g1,zbT h,zdO,zih (by rw[zcP,lj])]
 refine zqk (k:=j) (q:=q) (fun i hi=>?_) v (net.ok j v h).1
 have z:=zom (P:=P) (ns:=ns.take j) (ms:=ns.drop j) (i:=i) (by rw[lj]; exact hi)
 rw[← e2] at z
 exact z.symm
theorem zuO {ws us:List Nat}{i:Nat}(h:i < ws.length):(ws++us).getD i 0=ws.getD i 0:=by rw[List.getD_eq_getElem?_getD,List.getD_eq_getElem?_getD,List.getElem?_append_left h]

def Nd.hv:Nd→Nat
 | .minus _ _=>2
 | _=>1
theorem zqv:∀rs:List Nat,eqs (rs.map fun i=>((true,i):Bool×Nat))=rs
 | []=>rfl
 | r::rs=>(congrArg (r::·) (zqv rs):r::eqs (rs.map fun i=>((true,i):Bool×Nat))=r::rs)
theorem zuX (xs:List D):zbS xs (some 1) none=xs.drop 1:=by
 unfold L3.zbS
 have e:HT.sIx xs.length 0 (some 1)=min 1 xs.length:=by
  have z:=HT.sIx_nat xs.length 0 1
  exact z
 rw[HT.sIx_none]
 rw[e]
 by_cases c:1≤xs.length
 ·rw[Nat.min_eq_left c]
  exact List.take_of_length_le (by rw[List.length_drop]; exact Nat.le_refl _)
 ·have z:xs=[]:=List.eq_nil_of_length_eq_zero (by omega)
  subst z
  rfl


def za5 (M:List (List Int))(r c:Nat):List (List Int):=(M.take r++M.drop (r + 1)).map fun e=>e.take c++e.drop (c + 1)
def sgn (i:Int)(k:Nat):Int:=if k % 2=1 then -i else i
def zaI:Nat→List (List Int)→Int
 | 0,_=>1
 | n + 1,M=>((List.range (M.headD []).length).map fun c=>(M.headD []).getD c 0 * sgn (zaI n (za5 M 0 c)) c).sum
def Sq (n:Nat)(M:List (List Int)):Prop:=M.length=n∧∀r∈M,r.length=n
theorem zdG {n:Nat}{M:List (List Int)}(h:Sq (n + 1) M){r c:Nat}(hr:r≤n)(hc:c≤n):Sq n (za5 M r c):=by
 obtain⟨h1,h2⟩:=h
 refine⟨by simp[za5]; omega,fun q hq=>?_⟩
 simp only[za5,List.mem_map,List.mem_append] at hq
 obtain⟨e,he,rfl⟩:=hq
 have hm:e∈M:=he.elim List.mem_of_mem_take List.mem_of_mem_drop
 have:=h2 e hm
 simp; omega
inductive Rows (S:Sto)(b:Nat):List D→List (List Int)→Prop
 | nil:Rows S b [] []
 | cons {a:Nat} {r:List Int} {ds:List D} {M:List (List Int)}:b≤a→S[a]?=some (.lst (r.map D.int))→Rows S b ds M→Rows S b (.ref a::ds) (r::M)
theorem Rows.keep {S T:Sto}{b:Nat}{ds:List D}{M:List (List Int)}(h:Rows S b ds M)(k:∀a o,b≤a→S[a]?=some o→T[a]?=some o):Rows T b ds M:=by
 induction h with
 | nil=>exact .nil
 | cons h1 h2 _ ih=>exact .cons h1 (k _ _ h1 h2) ih
theorem Rows.pre {S T:Sto}{b:Nat}{ds:List D}{M:List (List Int)}(h:Rows S b ds M)(p:Pre S T):Rows T b ds M:=h.keep fun a o _ e=>p a o e
theorem Rows.low {S:Sto}{b c:Nat}{ds:List D}{M:List (List Int)}(h:Rows S b ds M)(k:c≤b):Rows S c ds M:=by
 induction h with
 | nil=>exact .nil
 | cons h1 h2 _ ih=>exact .cons (Nat.le_trans k h1) h2 ih
theorem Rows.len {S:Sto}{b:Nat}{ds:List D}{M:List (List Int)}(h:Rows S b ds M):ds.length=M.length:=by
 induction h with
 | nil=>rfl
 | cons _ _ _ ih=>simp[ih]
theorem Rows.get {S:Sto}{b:Nat}{ds:List D}{M:List (List Int)}(h:Rows S b ds M):∀ {k:Nat} {d:D},ds[k]?=some d→∃a r,d=.ref a∧b≤a∧M[k]?=some r∧S[a]?=some (.lst (r.map D.int)):=by
 induction h with
 | nil=>intro k d e; simp at e
 | cons h1 h2 _ ih=>
  intro k d e
  cases k with
  | zero=>simp at e; exact⟨_,_,e.symm,h1,rfl,h2⟩
  | succ k=>exact ih (by simpa using e)
theorem Rows.get' {S:Sto}{b:Nat}{ds:List D}{M:List (List Int)}(h:Rows S b ds M){k:Nat}{r:List Int}(e:M[k]?=some r):∃a,ds[k]?=some (.ref a)∧b≤a∧S[a]?=some (.lst (r.map D.int)):=by
 have hk:k < ds.length:=by rw[h.len]; exact(List.getElem?_eq_some_iff.mp e).1
 obtain⟨a,r',e1,e2,e3,e4⟩:=h.get (List.getElem?_eq_getElem hk)
 rw[e3] at e; cases e
 exact⟨a,by rw[List.getElem?_eq_getElem hk,e1],e2,e4⟩
theorem Rows.app {S:Sto}{b:Nat}{ds es:List D}{M M':List (List Int)}(h:Rows S b ds M)(g:Rows S b es M'):Rows S b (ds++es) (M++M'):=by
 induction h with
 | nil=>exact g
 | cons h1 h2 _ ih=>exact .cons h1 h2 ih
theorem Rows.snoc {S:Sto}{b a:Nat}{r:List Int}{ds:List D}{M:List (List Int)}(h:Rows S b ds M)(h1:b≤a)(h2:S[a]?=some (.lst (r.map D.int))):Rows S b (ds++[.ref a]) (M++[r]):=h.app (.cons h1 h2 .nil)
theorem Rows.drop {S:Sto}{b:Nat}{ds:List D}{M:List (List Int)}(h:Rows S b ds M):∀k:Nat,Rows S b (ds.drop k) (M.drop k):=by
 induction h with
 | nil=>intro k; simpa using Rows.nil
 | cons h1 h2 t ih=>
  intro k
  cases k with
  | zero=>exact .cons h1 h2 t
  | succ k=>simpa using ih k
theorem Rows.take {S:Sto}{b:Nat}{ds:List D}{M:List (List Int)}(h:Rows S b ds M):∀k:Nat,Rows S b (ds.take k) (M.take k):=by
 induction h with
 | nil=>intro k; simpa using Rows.nil
 | cons h1 h2 t ih=>
  intro k
  cases k with
  | zero=>simpa using Rows.nil
  | succ k=>simpa using Rows.cons h1 h2 (ih k)
def zbo (S:Sto)(n:Nat)(M:List (List Int)):Prop:=∃ds,S[n]?=some (.lst ds)∧Rows S 0 ds M
theorem zbo.pre {S T:Sto}{n:Nat}{M:List (List Int)}(h:zbo S n M)(p:Pre S T):zbo T n M:=by
 obtain⟨ds,h1,h2⟩:=h
 exact⟨ds,p _ _ h1,h2.pre p⟩
def Big (M:List (List Int)):Prop:=∀r∈M,∀x∈r,Sz 1030 x
theorem Big.minor {M:List (List Int)}(h:Big M)(r c:Nat):Big (za5 M r c):=fun q hq x hx=>by
 simp only[za5,List.mem_map,List.mem_append] at hq
 obtain⟨e,he,rfl⟩:=hq
 have hm:e∈M:=he.elim List.mem_of_mem_take List.mem_of_mem_drop
 rcases List.mem_append.mp hx with z | z
 ·exact h e hm x (List.mem_of_mem_take z)
 ·exact h e hm x (List.mem_of_mem_drop z)
theorem zpH {B:Nat}:∀ {l:List Int},(∀x∈l,x.natAbs≤B)→l.sum.natAbs≤l.length * B
 | [],_=>by simp
 | x::l,h=>by
  have h1:=h x (by simp)
  have h2:=zpH (l:=l) fun y hy=>h y (by simp[hy])
  rw[List.sum_cons,List.length_cons,Nat.succ_mul]
  omega
theorem zso {k:Nat}{l:List Int}(h:∀x∈l,Sz k x)(hl:l.length≤4):Sz (k + 2) l.sum:=by
 have hp:0 < 2 ^ k:=Nat.two_pow_pos k
 have h1:=zpH (B:=2 ^ k - 1) (l:=l) fun x hx=>by have:=h x hx; unfold Sz at this; omega
 have h2:l.length * (2 ^ k - 1)≤4 * (2 ^ k - 1):=Nat.mul_le_mul_right _ hl
 unfold Sz
 rw[Nat.pow_add]
 omega
theorem zlf {k n:Nat}{i:Int}(h:Sz k i):Sz k (sgn i n):=by
 unfold sgn
 split
 ·exact h.neg
 ·exact h
theorem znT:∀ {n:Nat} {M:List (List Int)},Sq n M→Big M→n≤4→Sz (n * 1034 + 1) (zaI n M)
 | 0,_,_,_,_=>by unfold Sz zaI; decide
 | n + 1,M,h,b,hn=>by
  unfold zaI
  obtain⟨r,M',rfl⟩:∃r M',M=r::M':=by
   match M,h.1 with
   | r::M',_=>exact⟨r,M',rfl⟩
  have hr:r.length=n + 1:=h.2 r (by simp)
  have q:Sz ((n * 1034 + 1031) + 2) (((List.range ((r::M').headD []).length).map fun c=>((r::M').headD []).getD c 0 * sgn (zaI n (za5 (r::M') 0 c)) c).sum):=by
   refine zso (fun x hx=>?_) (by simp[hr]; omega)
   obtain⟨c,hc,rfl⟩:=List.mem_map.mp hx
   have hc':c < n + 1:=by simpa [hr] using hc
   have e1:Sz 1030 ((r::M').headD [] |>.getD c 0):=by
    show Sz 1030 (r.getD c 0)
    rw[List.getD_eq_getElem?_getD,List.getElem?_eq_getElem (by omega)]
    exact b r (by simp) _ (List.getElem_mem ..)
   have e2:=zlf (n:=c) (znT (zdG h (Nat.zero_le n) (show c≤n by omega)) (b.minor 0 c) (by omega))
   exact(e1.mul e2).mono (by omega)
  exact q.mono (by omega)
theorem znI {n:Nat}{M:List (List Int)}(h:Sq n M)(b:Big M)(hn:n≤4):Sz 4140 (zaI n M):=(znT h b hn).mono (by omega)
theorem zsh {caps:List Nat}{tl te:TDE}{dl:Ev}{S T0:Sto}{Q:DK}{n:Nat}{ds:List D}{R:List (List Int)}(g:List Int→List Int)(htl:∀K:DK,K (.ref n) T0→tl dl S K)(hn:T0[n]?=some (.lst ds))(rows:Rows T0 0 ds R)(hl:ds.length≤1000)
  (ht:∀(a:Nat) (r:List Int) (S2:Sto) (K:DK),r∈R→S2[a]?=some (.lst (r.map D.int))→(∀(S3:Sto) (b:Nat),Pre S2 S3→S2.length≤b→S3[b]?=some (.lst ((g r).map D.int))→K (.ref b) S3)→te (some (.ref a)::zbz caps dl) S2 K)
  (hq:∀(S2:Sto) (ys:List D),Pre T0 S2→S2[T0.length]?=some (.lst ys)→Rows S2 0 ys (R.map g)→Q (.ref T0.length) S2):zcj caps tl zcp te dl S Q:=by
 refine zoY (S1:=T0) (n:=n) (o:=.lst ds) (fun k ys S2=>Pre T0 S2∧S2[T0.length]?=some (.lst ys)∧ys.length=k∧Rows S2 (T0.length + 1) ys ((R.take k).map g)) htl hn (fun k ys S2 w=>⟨w.1 _ _ hn,w.2.1,w.2.2.1⟩) hl
  ⟨Pre.refl.push,zax _ _,rfl,by simpa using Rows.nil⟩ (fun k x ys S2 K hx w hK=>?_) (fun ys S2 w=>?_)
 ·obtain⟨w1,w2,w3,w4⟩:=w
  obtain⟨a,r,rfl,_,hr,ha⟩:=rows.get hx
  refine ht a r S2 K (List.mem_of_getElem? hr) (w1 _ _ ha) fun S3 b p3 hb e3=>?_
  have hlt:=zbh w2
  refine hK _ S3 (p3 _ _ w2) ⟨zoV (w1.trans p3) (Nat.le_refl _),zcv (p3 _ _ w2),by simp[w3],?_⟩
  have e:(R.take (k + 1)).map g=(R.take k).map g++[g r]:=by rw[List.take_succ,hr]; simp
  rw[e]
  refine Rows.snoc (w4.keep fun a o l q=>?_) (by omega) ?_
  ·rw[List.getElem?_set_ne (by omega)]; exact p3 _ _ q
  ·rw[List.getElem?_set_ne (by omega)]; exact e3
 ·obtain⟨w1,w2,w3,w4⟩:=w
  have e:R.take (zai (.lst ds)).length=R:=List.take_of_length_le (by show R.length≤ds.length; rw[rows.len]; exact Nat.le_refl _)
  rw[e] at w4
  exact hq S2 ys w1 w2 (w4.low (Nat.zero_le _))
theorem zsg {caps:List Nat}{ta:TDA}{te:TDE}{dl:Ev}{S T0:Sto}{Q:DK}{j:Nat}(g:Nat→List Int)(hta:∀K:List D→Sto→Prop,K [.int (j:Int)] T0→ta dl S K)(hj:j≤1000)
  (ht:∀(k:Nat) (S2:Sto) (K:DK),k < j→Pre T0 S2→(∀(S3:Sto) (b:Nat),Pre S2 S3→S2.length≤b→S3[b]?=some (.lst ((g k).map D.int))→K (.ref b) S3)→te (some (.int (k:Int))::zbz caps dl) S2 K)
  (hq:∀(S2:Sto) (ys:List D),Pre T0 S2→S2[T0.length]?=some (.lst ys)→Rows S2 0 ys ((List.range j).map g)→Q (.ref T0.length) S2):zdj caps ta zcp te dl S Q:=by
 refine zvs (S1:=T0) (j:=(j:Int)) (fun k ys S2=>Pre T0 S2∧S2[T0.length]?=some (.lst ys)∧ys.length=k∧Rows S2 (T0.length + 1) ys ((List.range k).map g)) hta (by omega) (fun k ys S2 w=>⟨w.2.1,w.2.2.1⟩)
  ⟨Pre.refl.push,zax _ _,rfl,by simpa using Rows.nil⟩ (fun k ys S2 K hk w hK=>?_) (fun ys S2 w=>?_)
 ·obtain⟨w1,w2,w3,w4⟩:=w
  refine ht k S2 K (by omega) w1 fun S3 b p3 hb e3=>?_
  have hlt:=zbh w2
  refine hK _ S3 (p3 _ _ w2) ⟨zoV (w1.trans p3) (Nat.le_refl _),zcv (p3 _ _ w2),by simp[w3],?_⟩
  rw[List.range_succ,List.map_append]
  refine Rows.snoc (w4.keep fun a o l q=>?_) (by omega) ?_
  ·rw[List.getElem?_set_ne (by omega)]; exact p3 _ _ q
  ·rw[List.getElem?_set_ne (by omega)]; exact e3
 ·obtain⟨w1,w2,w3,w4⟩:=w
  exact hq S2 ys w1 w2 (w4.low (Nat.zero_le _))
theorem zmv {n:Nat}{S:Sto}{o:Ob}{ns:List Int}{Q:DK}(h:S[n]?=some o)(hb:zci (zai o)=some ns)(hq:Q (.int ns.sum) S):irr zlo [.ref n] S Q:=by
 rw[zfS]
 unfold zlo
 simp only[zaC h (zqd hb),hb]
 exact hq
theorem zxm (l:List Int):zci (l.map D.int)=some l:=by
 induction l with
 | nil=>rfl
 | cons x l ih=>simp only[List.map_cons,zci,ih,Option.map_some]
def zg0 (M:List (List Int))(n:Nat)(w g:Int)(i j:Nat):Int:=(sgn (zaI n (za5 M j i)) (j + i) * g * g).fdiv w
def zes (M:List (List Int))(n:Nat)(w g:Int)(i:Nat):List Int:=(List.range (n + 1)).map (zg0 M n w g i)
def zbN (M:List (List Int))(n:Nat)(w g:Int):List (List Int):=(List.range (n + 1)).map (zes M n w g)
inductive zbJ (S:Sto)(b:Nat):List D→List (List Int×Int)→Prop
 | nil:zbJ S b [] []
 | cons {a:Nat} {o:List Int×Int} {ds:List D} {os:List (List Int×Int)}:b≤a→S[a]?=some (.lst (o.1.map D.int))→zbJ S b ds os→zbJ S b (.tup [.ref a,.int o.2]::ds) (o::os)
def znn (S:Sto)(n:Nat)(os:List (List Int×Int)):Prop:=∃ds,S[n]?=some (.lst ds)∧zbJ S 0 ds os
theorem zbJ.keep {S T:Sto}{b:Nat}{ds:List D}{os:List (List Int×Int)}(h:zbJ S b ds os)(k:∀a o,b≤a→S[a]?=some o→T[a]?=some o):zbJ T b ds os:=by
 induction h with
 | nil=>exact .nil
 | cons h1 h2 _ ih=>exact .cons h1 (k _ _ h1 h2) ih
theorem zbJ.low {S:Sto}{b c:Nat}{ds:List D}{os:List (List Int×Int)}(h:zbJ S b ds os)(k:c≤b):zbJ S c ds os:=by
 induction h with
 | nil=>exact .nil
 | cons h1 h2 _ ih=>exact .cons (Nat.le_trans k h1) h2 ih
theorem zbJ.len {S:Sto}{b:Nat}{ds:List D}{os:List (List Int×Int)}(h:zbJ S b ds os):ds.length=os.length:=by
 induction h with
 | nil=>rfl
 | cons _ _ _ ih=>simp[ih]
theorem zbJ.get {S:Sto}{b:Nat}{ds:List D}{os:List (List Int×Int)}(h:zbJ S b ds os):∀ {k:Nat} {d:D},ds[k]?=some d→∃a o,d=.tup [.ref a,.int o.2]∧b≤a∧os[k]?=some o∧S[a]?=some (.lst (o.1.map D.int)):=by
 induction h with
 | nil=>intro k d e; simp at e
 | cons h1 h2 _ ih=>
  intro k d e
  cases k with
  | zero=>simp at e; exact⟨_,_,e.symm,h1,rfl,h2⟩
  | succ k=>exact ih (by simpa using e)
theorem zbJ.snoc {S:Sto}{b a:Nat}{o:List Int×Int}{ds:List D}{os:List (List Int×Int)}(h:zbJ S b ds os)(h1:b≤a)(h2:S[a]?=some (.lst (o.1.map D.int))):zbJ S b (ds++[.tup [.ref a,.int o.2]]) (os++[o]):=by
 induction h with
 | nil=>exact .cons h1 h2 .nil
 | cons g1 g2 _ ih=>exact .cons g1 g2 ih
theorem Rows.put {S:Sto}{b a:Nat}{r:List Int}{ds:List D}{M:List (List Int)}(h:Rows S b ds M)(h1:b≤a)(h2:S[a]?=some (.lst (r.map D.int))):∀j:Nat,Rows S b (ds.set j (.ref a)) (M.set j r):=by
 induction h with
 | nil=>intro j; exact .nil
 | cons g1 g2 t ih=>
  intro j
  cases j with
  | zero=>exact .cons h1 h2 t
  | succ j=>exact .cons g1 g2 (ih j)
theorem znn.pre {S T:Sto}{n:Nat}{os:List (List Int×Int)}(h:znn S n os)(p:Pre S T):znn T n os:=by
 obtain⟨ds,h1,h2⟩:=h
 exact⟨ds,p _ _ h1,h2.keep fun a o _ e=>p a o e⟩
def Fit (n:Nat)(o:List Int×Int):Prop:=o.1.length=n∧(∀x∈o.1,0≤x∧x < n)∧(o.2=1∨o.2=-1)
instance (n:Nat) (o:List Int×Int):Decidable (Fit n o):=by unfold Fit; infer_instance
theorem zq0 {xs:List D}{i:Nat}:zbS xs none (some (i:Int))=xs.take i:=by
 unfold L3.zbS
 rw[HT.sIx_none,HT.sIx_nat,List.drop_zero,Nat.sub_zero]
 rw[List.take_eq_take_iff]
 omega
theorem zqQ {xs:List D}{i:Nat}:zbS xs (some (i:Int)) none=xs.drop i:=by
 unfold L3.zbS
 rw[HT.sIx_none,HT.sIx_nat]
 rcases Nat.le_total i xs.length with h | h
 ·rw[Nat.min_eq_left h]
  exact List.take_of_length_le (by rw[List.length_drop]; exact Nat.le_refl _)
 ·rw[Nat.min_eq_right h,List.drop_of_length_le (Nat.le_refl _),List.drop_of_length_le h]
  simp


theorem zlJ {r0:List Int}{k:Nat}{x:D}(hx:(r0.map D.int)[k]?=some x):x=.int (r0.getD k 0):=by
 have hk:k < r0.length:=by
  have:=(List.getElem?_eq_some_iff.mp hx).1
  rwa [List.length_map] at this
 rw[List.getElem?_map,List.getElem?_eq_getElem hk] at hx
 rw[List.getD_eq_getElem?_getD,List.getElem?_eq_getElem hk]
 exact(Option.some.inj hx).symm
theorem zki {r0:List Int}{M':List (List Int)}{n k:Nat}(sq:Sq (n + 1) (r0::M'))(big:Big (r0::M'))(hn:n≤3)(hk:k < n + 1):IntMulOk (r0.getD k 0) (sgn (zaI n (za5 (r0::M') 0 k)) (0 + k)):=by
 have lr:r0.length=n + 1:=sq.2 r0 (by simp)
 have e1:Sz 1030 (r0.getD k 0):=by
  rw[List.getD_eq_getElem?_getD,List.getElem?_eq_getElem (by omega)]
  exact big r0 (by simp) _ (List.getElem_mem ..)
 exact zaR e1 (zlf (znI (zdG sq (Nat.zero_le _) (by omega)) (big.minor 0 k) (by omega)))
theorem zj9 (n:Nat)(r0:List Int)(M':List (List Int)):zci ((r0.map D.int).mapIdx fun k d=>D.int (r0.getD k 0 * sgn (zaI n (za5 (r0::M') 0 k)) k))=some ((List.range r0.length).map fun k=>r0.getD k 0 * sgn (zaI n (za5 (r0::M') 0 k)) k):=by
 have e:(r0.map D.int).mapIdx (fun k d=>D.int (r0.getD k 0 * sgn (zaI n (za5 (r0::M') 0 k)) k))=((List.range r0.length).map fun k=>r0.getD k 0 * sgn (zaI n (za5 (r0::M') 0 k)) k).map D.int:=by
  refine List.ext_getElem (by simp) fun k h1 h2=>?_
  simp
 rw[e,zxm]
theorem zjF {m a:Nat}{S:Sto}{ds:List D}{K:List D→Sto→Prop}(hm:S[m]?=some (.lst ds))(hd:ds[0]?=some (.ref a))(hK:K [.ref a] S):wIx (.ref m) (.int 0) S (fun x S1=>K [x] S1):=by
 have z:=zaD (n:=m) (S:=S) (o:=.lst ds) (i:=0) (d:=.ref a) (Q:=fun x S1=>K [x] S1) hm (zds (j:=0) hd) hK
 rw[zbY] at z
 exact z
theorem Rows.toI {S:Sto}{b:Nat}{ds:List D}{M:List (List Int)}(h:Rows S b ds M):zfh S ds M:=⟨h.len,fun k d r hd hr=>by
 obtain⟨a,r',e,_,e3,e4⟩:=h.get hd
 rw[e3] at hr
 cases hr
 exact⟨a,e,e4⟩⟩
theorem zoJ {rows:List (Bool×Nat)}{i:Nat}(h:i∈eqs rows):(true,i)∈rows:=by
 obtain⟨⟨b,n⟩,hr,e⟩:=List.mem_filterMap.mp h
 cases b
 ·cases e
 ·cases e
  exact hr
def zls (rows:List (Bool×Nat))(vs:List (Int×Int)):Bool:=rows.all fun r=>r.1 || decide (0≤(gt vs (r.2:Int)).1)
theorem zm3 (vs:List (Int×Int)):∀rows:List (Bool×Nat),zb8 (((rows.map rwD)).filterMap (fun d=>match d with | .tup [.str w,.int at']=>if w="least" then some (.bl (decide (0≤(gt vs at').1))) else none | _=>none))=some (rows.filterMap fun r=>if r.1 then none else some (decide (0≤(gt vs (r.2:Int)).1)))
 | []=>rfl
 | (false,n)::rs=>by
  show (zb8 ((rs.map rwD).filterMap _)).map _=_
  rw[zm3 vs rs]
  rfl
 | (true,n)::rs=>zm3 vs rs
theorem znP (vs:List (Int×Int)):∀rows:List (Bool×Nat),((rows.filterMap fun r=>if r.1 then none else some (decide (0≤(gt vs (r.2:Int)).1))).all id)=zls rows vs
 | []=>rfl
 | (false,n)::rs=>by
  show (decide _ && (rs.filterMap _).all id)=_
  rw[znP vs rs]
  rfl
 | (true,n)::rs=>znP vs rs
def zfG (p q:Int×Int):Bool:=decide (q.1 < p.1) && decide (p.2 < q.2)
def zhv (us vs:List (Int×Int)):Bool:=(List.zipWith zfG us vs).all id
theorem zsV {us vs:List (Int×Int)}:zhv us vs=true↔∀(k:Nat) (p q:Int×Int),us[k]?=some p→vs[k]?=some q→q.1 < p.1∧p.2 < q.2:=by
 unfold zhv
 rw[List.all_eq_true]
 refine⟨fun h k p q hp hq=>?_,fun h b hb=>?_⟩
 ·have z:=h (zfG p q) (List.mem_of_getElem? (i:=k) (by rw[List.getElem?_zipWith,hp,hq]))
  simpa [zfG] using z
 ·obtain⟨k,hk⟩:=List.mem_iff_getElem?.mp hb
  rw[List.getElem?_zipWith] at hk
  cases e1:us[k]? with
  | none=>rw[e1] at hk; cases hk
  | some p=>
   cases e2:vs[k]? with
   | none=>rw[e1,e2] at hk; cases hk
   | some q=>
    rw[e1,e2] at hk
    obtain⟨a,b⟩:=h k p q e1 e2
    have z:=Option.some.inj hk
    subst z
    simp[zfG,a,b]
theorem zuc (us vs:List (Int×Int)):zb8 (List.zipWith (fun x y=>match x,y with | .tup [.int a,.int b],.tup [.int c,.int d]=>.bl (decide (c < a) && decide (b < d)) | _,_=>.non) (us.map frD) (vs.map frD))=some (List.zipWith zfG us vs):=by
 induction us generalizing vs with
 | nil=>rfl
 | cons u us ih=>
  cases vs with
  | nil=>rfl
  | cons v vs=>
   show (zb8 (List.zipWith _ (us.map frD) (vs.map frD))).map _=_
   rw[ih]
   rfl
def zed (g:Int)(bs:List (Int×Int))(ns:List Nd)(rows:List (Bool×Nat)):List (Int×Int):=(eqs rows).map fun (i:Nat)=>gt (zar (bs.map zaW) g ns) i
def zbZ (g:Int)(bs:List (Int×Int))(ns:List Nd)(rows:List (Bool×Nat)):List (List (Int×Int)):=(eqs rows).map fun (i:Nat)=>(zaM (zar bs g ns) g bs.length ns).getD i []
def za3 (g:Int)(bs:List (Int×Int))(ns:List Nd)(rows:List (Bool×Nat)):List (List Int):=(zbZ g bs ns rows).map fun r=>r.map mid
def zc2 (g:Int)(bs:List (Int×Int))(ns:List Nd)(rows:List (Bool×Nat))(M:List (List Int)):List (Int×Int):=M.mapIdx fun k es=>zbO g bs (zed g bs ns rows) (zbZ g bs ns rows) k es
def alS (g:Int)(bs:List (Int×Int))(ns:List Nd)(rows:List (Bool×Nat)):Option (List (List Int)×List (Int×Int)):=
 if (eqs rows).length=bs.length∧zls rows (zar bs g ns)=true then
  if zaI bs.length (za3 g bs ns rows)=0 then none
  else if zhv (zc2 g bs ns rows (zbN (za3 g bs ns rows) (bs.length - 1) (zaI bs.length (za3 g bs ns rows)) g)) bs=true then some (zbN (za3 g bs ns rows) (bs.length - 1) (zaI bs.length (za3 g bs ns rows)) g,zc2 g bs ns rows (zbN (za3 g bs ns rows) (bs.length - 1) (zaI bs.length (za3 g bs ns rows)) g))
  else none
 else none
theorem zqD (M:List (List Int))(n:Nat)(w g:Int):(zbN M n w g).length=n + 1:=by simp[zbN]
theorem zpp {M:List (List Int)}{n:Nat}{w g:Int}:∀r∈zbN M n w g,r.length=n + 1:=fun r hr=>by
 unfold zbN at hr
 obtain⟨i,_,rfl⟩:=List.mem_map.mp hr
 simp[zes]
theorem zqu {g:Int}{bs:List (Int×Int)}{ns:List Nd}{rows:List (Bool×Nat)}{M:List (List Int)}{near:List (Int×Int)}(h:alS g bs ns rows=some (M,near))(b1:1≤bs.length):(eqs rows).length=bs.length∧M.length=bs.length∧(∀es∈M,es.length=bs.length)∧near=zc2 g bs ns rows M∧near.length=bs.length∧(∀(k:Nat) (es:List Int),M[k]?=some es→near[k]?=some (zbO g bs (zed g bs ns rows) (zbZ g bs ns rows) k es)∧(gt bs (k:Int)).1 < (zbO g bs (zed g bs ns rows) (zbZ g bs ns rows) k es).1∧(zbO g bs (zed g bs ns rows) (zbZ g bs ns rows) k es).2 < (gt bs (k:Int)).2):=by
 unfold alS at h
 split at h
 ·rename_i c
  split at h
  ·cases h
  ·split at h
   ·rename_i dp
    cases h
    have lM:=zqD (za3 g bs ns rows) (bs.length - 1) (zaI bs.length (za3 g bs ns rows)) g
    have lM':(zbN (za3 g bs ns rows) (bs.length - 1) (zaI bs.length (za3 g bs ns rows)) g).length=bs.length:=by omega
    refine⟨c.1,lM',fun es he=>by have:=zpp es he; omega,rfl,by unfold zc2; rw[List.length_mapIdx,lM'],fun k es hk=>?_⟩
    have e:(zc2 g bs ns rows (zbN (za3 g bs ns rows) (bs.length - 1) (zaI bs.length (za3 g bs ns rows)) g))[k]?=some (zbO g bs (zed g bs ns rows) (zbZ g bs ns rows) k es):=by
     unfold zc2
     rw[List.getElem?_mapIdx,hk]
     rfl
    have hl:=(List.getElem?_eq_some_iff.mp hk).1
    have eb:=List.getElem?_eq_getElem (show k < bs.length by omega)
    refine⟨e,?_⟩
    rw[zis eb]
    exact zsV.mp dp k _ _ e eb
   ·cases h
 ·cases h
theorem zui (t w:Int)(hw:w≠0):(t.fdiv w).natAbs≤t.natAbs + 1:=by
 rcases Int.lt_or_lt_of_ne hw with h | h
 ·have e:t.fdiv w=(-t).fdiv (-w):=by rw[Int.neg_fdiv_neg]
  rw[e,Int.fdiv_eq_ediv_of_nonneg _ (by omega)]
  have:=Int.natAbs_ediv_le_natAbs (-t) (-w)
  omega
 ·rw[Int.fdiv_eq_ediv_of_nonneg _ (by omega)]
  have:=Int.natAbs_ediv_le_natAbs t w
  omega
theorem zrI {M:List (List Int)}{n:Nat}{w g:Int}(sq:Sq (n + 1) M)(big:Big M)(hn:n≤3)(hw:w≠0)(hg:1≤g∧g≤1000000):∀r∈zbN M n w g,∀x∈r,Sz 4000 x:=fun r hr x hx=>by
 unfold zbN at hr
 obtain⟨i,hi,rfl⟩:=List.mem_map.mp hr
 unfold zes at hx
 obtain⟨j,hj,rfl⟩:=List.mem_map.mp hx
 have hi9:=List.mem_range.mp hi
 have hj9:=List.mem_range.mp hj
 unfold zg0
 have e2:=zlf (n:=j + i) (znT (zdG sq (show j≤n by omega) (show i≤n by omega)) (big.minor j i) (by omega))
 have eg:Sz 20 g:=Sz.of 1000000 (by omega)
 have e3:=(e2.mul eg).mul eg
 have e4:Sz 3999 (sgn (zaI n (za5 M j i)) (j + i) * g * g):=e3.mono (by omega)
 have:=zui (sgn (zaI n (za5 M j i)) (j + i) * g * g) w hw
 unfold Sz at *
 have e5:2 ^ 4000=2 * 2 ^ 3999:=by rw[Nat.pow_succ]; omega
 have e6:1 < 2 ^ 3999:=Nat.one_lt_two_pow (by decide)
 omega

theorem zo8 {p q:Int×Int}(h1:p.1≤p.2)(h2:q.1≤q.2):(zfb p q).1≤(zfb p q).2:=by
 show p.1 + q.1≤p.2 + q.2
 omega
theorem zrA {p q:Int×Int}(h1:p.1≤p.2)(h2:q.1≤q.2):(zcD p q).1≤(zcD p q).2:=by
 show p.1 - q.2≤p.2 - q.1
 omega
theorem zpe {g:Int}(hg:1≤g)(us vs:List (Int×Int)):(sumP g us vs).1≤(sumP g us vs).2:=by
 rw[← zoc]
 have main:∀k:Nat,k≤us.length→k≤vs.length→(sumP g (us.take k) (vs.take k)).1≤(sumP g (us.take k) (vs.take k)).2:=fun k=>by
  induction k with
  | zero=>exact fun _ _=>Int.le_refl 0
  | succ k ih=>
   intro l1 l2
   have hu:=List.getElem?_eq_getElem (show k < us.length by omega)
   have hv:=List.getElem?_eq_getElem (show k < vs.length by omega)
   rw[zjj g us vs k hu hv]
   exact zo8 (ih (by omega) (by omega)) (zjm _ _ hg)
 exact main _ (by omega) (by omega)
theorem ztg {g:Int}(hg:1≤g){box thin:List (Int×Int)}{R:List (List (Int×Int))}{k:Nat}{es:List Int}:(zbO g box thin R k es).1≤(zbO g box thin R k es).2:=by
 unfold zbO
 exact zo8 (zrA (Int.le_refl _) (zpe hg _ _)) (zpe hg _ _)
theorem zqx {g:Int}{bs:List (Int×Int)}{ns:List Nd}{ws:List Nat}{rows:List (Bool×Nat)}{M:List (List Int)}{near:List (Int×Int)}(h:alS g bs ns rows=some (M,near))(b1:1≤bs.length)(net:zaG bs.length ns ws)(sb:Spn 51 bs)(hg:1≤g∧g≤1000000)(hi:∀i∈eqs rows,i < ns.length):near.length=bs.length∧(∀k:Nat,k < bs.length→(gt bs (k:Int)).1 < (gt near (k:Int)).1∧(gt near (k:Int)).1≤(gt near (k:Int)).2∧(gt near (k:Int)).2 < (gt bs (k:Int)).2)∧Spn 51 near:=by
 obtain⟨_,lM,_,_,ln,hk⟩:=zqu h b1
 have main:∀k:Nat,k < bs.length→(gt bs (k:Int)).1 < (gt near (k:Int)).1∧(gt near (k:Int)).1≤(gt near (k:Int)).2∧(gt near (k:Int)).2 < (gt bs (k:Int)).2:=fun k hb=>by
  obtain⟨e,d1,d2⟩:=hk k _ (List.getElem?_eq_getElem (show k < M.length by omega))
  rw[zis e]
  exact⟨d1,ztg hg.1,d2⟩
 refine⟨ln,main,fun p hp=>?_⟩
 obtain⟨k,hk⟩:=List.mem_iff_getElem?.mp hp
 have hl:=(List.getElem?_eq_some_iff.mp hk).1
 obtain⟨m1,m2,m3⟩:=main k (by omega)
 rw[zis hk] at m1 m2 m3
 have b:=sb _ (zdN (vs:=bs) (i:=(k:Int)) ⟨by omega,by omega⟩)
 obtain⟨b1,b2,b3⟩:=b
 unfold Sz at *
 exact⟨m2,by omega,by omega⟩
def clS (g:Int)(ns:List Nd)(rows:List (Bool×Nat)):Nat→List (Int×Int)→List (Int×Int)
 | 0,bs=>bs
 | n + 1,bs=>match alS g bs ns rows with
  | none=>bs
  | some (_,near)=>clS g ns rows n near
theorem zpy (g:Int)(ns:List Nd)(rows:List (Bool×Nat)):∀(a b:Nat) (bs:List (Int×Int)),clS g ns rows (a + b) bs=clS g ns rows b (clS g ns rows a bs)
 | 0,b,bs=>by rw[Nat.zero_add]; rfl
 | a + 1,b,bs=>by
  rw[Nat.succ_add]
  cases e:alS g bs ns rows with
  | none=>
   have z:∀n:Nat,clS g ns rows n bs=bs:=fun n=>by
    cases n with
    | zero=>rfl
    | succ n=>show (match alS g bs ns rows with | none=>bs | some (_,near)=>clS g ns rows n near)=bs; rw[e]
   rw[z,z,z]
  | some w=>
   obtain⟨M,near⟩:=w
   show (match alS g bs ns rows with | none=>bs | some (_,near)=>clS g ns rows (a + b) near)=clS g ns rows b (match alS g bs ns rows with | none=>bs | some (_,near)=>clS g ns rows a near)
   rw[e]
   exact zpy g ns rows a b near

structure Gr (q a c:Nat)(S:Sto)(ns:List Nd)(ws:List Nat)(T:Sto)(ns':List Nd)(ws':List Nat):Prop where
 net:zaG q ns' ws'
 pn:∃ms,ns'=ns++ms∧ms.length≤c
 pw:∃us,ws'=ws++us
 nd:T[a]?=some (.lst (ns'.map Nd.d))
 len:S.length≤T.length
 kp:∀(x:Nat) (o:Ob),x≠a→S[x]?=some o→T[x]?=some o
theorem Gr.refl {q a:Nat}{S:Sto}{ns:List Nd}{ws:List Nat}(net:zaG q ns ws)(h:S[a]?=some (.lst (ns.map Nd.d))):Gr q a 0 S ns ws S ns ws:=⟨net,⟨[],by simp,by simp⟩,⟨[],by simp⟩,h,Nat.le_refl _,fun _ _ _ e=>e⟩
theorem Gr.trans {q a c d:Nat}{S T U:Sto}{ns ns' ns2:List Nd}{ws ws' ws2:List Nat}(h:Gr q a c S ns ws T ns' ws')(k:Gr q a d T ns' ws' U ns2 ws2):Gr q a (c + d) S ns ws U ns2 ws2:=by
 obtain⟨n1,⟨ms,rfl,l1⟩,⟨us,rfl⟩,a1,e1,k1⟩:=h
 obtain⟨n2,⟨ms2,rfl,l2⟩,⟨us2,rfl⟩,a2,e2,k2⟩:=k
 exact⟨n2,⟨ms++ms2,by rw[List.append_assoc],by rw[List.length_append]; omega⟩,⟨us++us2,by rw[List.append_assoc]⟩,a2,by omega,fun x o hx e=>k2 x o hx (k1 x o hx e)⟩
theorem Gr.mono {q a c d:Nat}{S T:Sto}{ns ns':List Nd}{ws ws':List Nat}(h:Gr q a c S ns ws T ns' ws')(l:c≤d):Gr q a d S ns ws T ns' ws':=by
 obtain⟨n1,⟨ms,e,l1⟩,u,a1,e1,k1⟩:=h
 exact⟨n1,⟨ms,e,by omega⟩,u,a1,e1,k1⟩
theorem Gr.ln {q a c:Nat}{S T:Sto}{ns ns':List Nd}{ws ws':List Nat}(h:Gr q a c S ns ws T ns' ws'):ns.length≤ns'.length∧ns'.length≤ns.length + c:=by
 obtain⟨n1,⟨ms,rfl,l1⟩,_⟩:=h
 rw[List.length_append]
 omega
theorem Gr.wt {q a c:Nat}{S T:Sto}{ns ns':List Nd}{ws ws':List Nat}(h:Gr q a c S ns ws T ns' ws')(net:zaG q ns ws){i:Nat}(hi:i < ns.length):ws'.getD i 0=ws.getD i 0:=by
 obtain⟨us,rfl⟩:=h.pw
 exact zuO (by rw[net.len]; exact hi)
theorem Gr.due {q a c:Nat}{S T:Sto}{ns ns':List Nd}{ws ws':List Nat}(h:Gr q a c S ns ws T ns' ws')(P:List (Int×Int)){i:Nat}(hi:i < ns.length):gt (zaq P ns') (i:Int)=gt (zaq P ns) (i:Int):=by
 obtain⟨ms,rfl,_⟩:=h.pn
 exact zom ⟨by omega,by omega⟩
theorem Gr.get {q a c:Nat}{S T:Sto}{ns ns':List Nd}{ws ws':List Nat}(h:Gr q a c S ns ws T ns' ws'){i:Nat}{v:Nd}(hi:ns[i]?=some v):ns'[i]?=some v:=by
 obtain⟨ms,rfl,_⟩:=h.pn
 rw[List.getElem?_append_left (List.getElem?_eq_some_iff.mp hi).1]
 exact hi
theorem Gr.put {q a c n:Nat}{S T:Sto}{ns ns':List Nd}{ws ws':List Nat}{o:Ob}(h:Gr q a c S ns ws T ns' ws')(ha:n≠a)(hn:S.length≤n):Gr q a c S ns ws (T.set n o) ns' ws':=by
 obtain⟨n1,pn,pw,a1,e1,k1⟩:=h
 refine⟨n1,pn,pw,zcA a1 ha,by rw[List.length_set]; exact e1,fun x u hx e=>zcA (k1 x u hx e) ?_⟩
 have:=zbh e
 omega
theorem Gr.push {q a:Nat}{S:Sto}{ns:List Nd}{ws:List Nat}(net:zaG q ns ws)(h:S[a]?=some (.lst (ns.map Nd.d)))(U:Sto):Gr q a 0 S ns ws (S++U) ns ws:=⟨net,⟨[],by simp,by simp⟩,⟨[],by simp⟩,zaz h,by simp,fun _ _ _ e=>zaz e⟩
structure Zr (P:List (Int×Int))(ns:List Nd)(ws:List Nat)(w i:Nat):Prop where
 lt:i < ns.length
 wt:ws.getD i 0≤w
 due:(gt (zaq P ns) (i:Int)).1=0
theorem Zr.up {P:List (Int×Int)}{q a c w i:Nat}{S T:Sto}{ns ns':List Nd}{ws ws':List Nat}(z:Zr P ns ws w i)(h:Gr q a c S ns ws T ns' ws')(net:zaG q ns ws):Zr P ns' ws' w i:=⟨by have:=h.ln; have:=z.lt; omega,by rw[h.wt net z.lt]; exact z.wt,by rw[h.due P z.lt]; exact z.due⟩
theorem ztO {q a c:Nat}{S T:Sto}{ns ns':List Nd}{ws ws':List Nat}(h:Gr q a c S ns ws T ns' ws')(net:zaG q ns ws){v:Nd}(ok:v.ok ns.length q):v.wt ws'=v.wt ws:=by
 have z:∀i:Int,inR (ns.length:Nat) i→ws'.getD i.toNat 0=ws.getD i.toNat 0:=fun i hi=>by
  have h0:=hi.1
  have h1:=hi.2
  exact h.wt net (by omega)
 cases v with
 | number _ _=>rfl
 | unknown _=>rfl
 | plus i j=>show ws'.getD i.toNat 0 + ws'.getD j.toNat 0=ws.getD i.toNat 0 + ws.getD j.toNat 0; rw[z i ok.1,z j ok.2]
 | minus i j=>show ws'.getD i.toNat 0 + ws'.getD j.toNat 0=ws.getD i.toNat 0 + ws.getD j.toNat 0; rw[z i ok.1,z j ok.2]
 | times i j=>show ws'.getD i.toNat 0 + ws'.getD j.toNat 0=ws.getD i.toNat 0 + ws.getD j.toNat 0; rw[z i ok.1,z j ok.2]
 | power i n=>show n.toNat * ws'.getD i.toNat 0=n.toNat * ws.getD i.toNat 0; rw[z i ok.1]
theorem zts {q a c j:Nat}{S T:Sto}{ns ns':List Nd}{ws ws':List Nat}(h:Gr q a c S ns ws T ns' ws'){v:Nd}(ok:v.ok ns.length q)(hj:ns'[j]?=some v)(P:List (Int×Int)):gt (zaq P ns') (j:Int)=v.due (zaq P ns) P:=by
 rw[zo7 (P:=P) h.net hj]
 refine zqk (k:=ns.length) (q:=q) (fun i hi=>?_) v ok
 have h0:=hi.1
 have h1:=hi.2
 have z:=h.due P (i:=i.toNat) (by omega)
 rw[show ((i.toNat:Nat):Int)=i by omega] at z
 exact z

theorem zrC {a b c d:TDS}{E:zdg}{dl:Ev}{S:Sto}(W:Ev→Sto→Prop)(ha:∀nx:Ev→Sto→Prop,(∀dl' S',W dl' S'→nx dl' S')→zcT a (zcT b c) { nx:=nx,rt:=E.rt,bk:=E.bk,ct:=E.ct } dl S)(hb:∀dl' S',W dl' S'→d E dl' S'):zcT a (zcT b (zcT c d)) E dl S:=ha _ hb
theorem zoM {g W:Int}{ns:List Nd}{ws:List Nat}{rows:List (Bool×Nat)}{P:List (Int×Int)}(hg:1≤g∧g≤1000000)(hW:1≤W∧W≤60)(hi:∀i∈eqs rows,i < ns.length)(zero:∀i∈eqs rows,(gt (zaq P ns) (i:Int)).1=0)(zp:Pz 110 P)(pt:∀j:Int,inR P.length j→(gt P j).2=g * W):∀(k:Nat) (bs:List (Int×Int)),zaG bs.length ns ws→1≤bs.length→bs.length=P.length→Spn 51 bs→(clS g ns rows k bs).length=bs.length∧Spn 51 (clS g ns rows k bs)∧(∀j:Nat,j < bs.length→(gt bs (j:Int)).1≤(gt (clS g ns rows k bs) (j:Int)).1∧(gt (clS g ns rows k bs) (j:Int)).2≤(gt bs (j:Int)).2)∧(InW g bs P→InW g (clS g ns rows k bs) P)
 | 0,bs,_,_,_,sb=>⟨rfl,sb,fun j _=>⟨Int.le_refl _,Int.le_refl _⟩,id⟩
 | k + 1,bs,net,b1,lb,sb=>by
  cases e:alS g bs ns rows with
  | none=>
   have z:clS g ns rows (k + 1) bs=bs:=by
    show (match alS g bs ns rows with | none=>bs | some (_,near)=>clS g ns rows k near)=bs
    rw[e]
   rw[z]
   exact⟨rfl,sb,fun j _=>⟨Int.le_refl _,Int.le_refl _⟩,id⟩
  | some w=>
   obtain⟨M,near⟩:=w
   have z:clS g ns rows (k + 1) bs=clS g ns rows k near:=by
    show (match alS g bs ns rows with | none=>bs | some (_,near)=>clS g ns rows k near)=_
    rw[e]
   obtain⟨ln,dp,sn⟩:=zqx e b1 net sb hg hi
   obtain⟨le,lM,lE,_,_,hk⟩:=zqu e b1
   obtain⟨r1,r2,r3,r4⟩:=zoM hg hW hi zero zp pt k near (by rw[ln]; exact net) (by omega) (by omega) sn
   rw[z]
   refine⟨by omega,r2,fun j hj=>?_,fun ip=>r4 fun j hj=>?_⟩
   ·have a:=dp j hj
    have b:=r3 j (by omega)
    omega
   ·have h0:=hj.1
    have h1:=hj.2
    have hm:=List.getElem?_eq_getElem (show j.toNat < M.length by omega)
    obtain⟨en,_⟩:=hk _ _ hm
    have st:=zxC (is:=eqs rows) (k:=j.toNat) (es:=M[j.toNat]) net rfl lb sb hg hW ip zp (by rw[lb]; exact pt) hi zero (by omega) (by rw[lE _ (List.mem_of_getElem? hm),le])
    have eg:=zis en
    rw[show ((j.toNat:Nat):Int)=j by omega] at eg st
    rw[eg]
    exact st

structure zbH (K:PySem.W.Frag)(mg:Str→Option Value) where
 C:Addr
 m:mg "Number"=some (.ref C)
 cl:Cls K C
 n_bottom:zbv K C "bottom"
 n_top:zbv K C "top"
 makes:PySem.W.makesIn K C=true
 kp:PySem.W.keepIn K (.ref C)=true
structure zbP (K:PySem.W.Frag)(mg:Str→Option Value) where
 C:Addr
 m:mg "Unknown"=some (.ref C)
 cl:Cls K C
 n_place:zbv K C "place"
 makes:PySem.W.makesIn K C=true
 kp:PySem.W.keepIn K (.ref C)=true
structure zbC (K:PySem.W.Frag)(mg:Str→Option Value) where
 C:Addr
 m:mg "Plus"=some (.ref C)
 cl:Cls K C
 n_other:zbv K C "other"
 n_one:zbv K C "one"
 makes:PySem.W.makesIn K C=true
 kp:PySem.W.keepIn K (.ref C)=true
structure zbD (K:PySem.W.Frag)(mg:Str→Option Value) where
 C:Addr
 m:mg "Minus"=some (.ref C)
 cl:Cls K C
 n_other:zbv K C "other"
 n_one:zbv K C "one"
 makes:PySem.W.makesIn K C=true
 kp:PySem.W.keepIn K (.ref C)=true
structure zbA (K:PySem.W.Frag)(mg:Str→Option Value) where
 C:Addr
 m:mg "Times"=some (.ref C)
 cl:Cls K C
 n_other:zbv K C "other"
 n_one:zbv K C "one"
 makes:PySem.W.makesIn K C=true
 kp:PySem.W.keepIn K (.ref C)=true
structure zbL (K:PySem.W.Frag)(mg:Str→Option Value) where
 C:Addr
 m:mg "Power"=some (.ref C)
 cl:Cls K C
 n_many:zbv K C "many"
 n_one:zbv K C "one"
 makes:PySem.W.makesIn K C=true
 kp:PySem.W.keepIn K (.ref C)=true
def zii:Sd:=fun ds S Q ex=>match ds with
 | [.int _]=>∀g:Int,1≤g→g≤1000000→Q (.int g) S
 | _=>False
theorem zxx:Ln (zii) 1:=fun ds S Q ex h=>by unfold zii at h; split at h <;> first | rfl | exact h.elim
def zdC:Sd:=fun ds S Q ex=>match ds with
 | [.ref n,.int k]=>∃ns:List Int,S[n]?=some (.frz (ns.map D.int))∧0≤k∧Q (.int (ns.getD k.toNat 0)) S
 | _=>False
theorem zrw:Ln (zdC) 2:=fun ds S Q ex h=>by unfold zdC at h; split at h <;> first | rfl | exact h.elim
def zgh:Sd:=fun ds S Q ex=>match ds with
 | [.ref sc,.int qi,.int g,.int parts]=>∃(cs:List Int) (q:Nat),S[sc]?=some (.frz (cs.map D.int))∧(qi=(q:Nat)∧q≤4)∧(1≤g∧g≤1000000)∧(1≤parts∧parts≤8)∧∀(T:Sto) (m:Nat) (P:List (Int×Int)),Pre S T→S.length≤m→T[m]?=some (.lst (P.map frD))→P.length=q→(∀p∈P,p.2=g * parts∧p.1.natAbs≤1000000)→Q (.ref m) T
 | _=>False
theorem ztT:Ln (zgh) 4:=fun ds S Q ex h=>by unfold zgh at h; split at h <;> first | rfl | exact h.elim
def zgJ:Sd:=fun ds S Q ex=>match ds with
 | [.ref sc,.ref p,.int parts,.int g]=>∃(cs:List Int) (P:List (Int×Int)),S[sc]?=some (.frz (cs.map D.int))∧S[p]?=some (.lst (P.map frD))∧P.length≤4∧(∀x∈P,x.1.natAbs≤1000000)∧(1≤g∧g≤1000000)∧(1≤parts∧parts≤8)∧∀(T:Sto) (m:Nat) (B:List (Int×Int)),Pre S T→S.length≤m→T[m]?=some (.lst (B.map frD))→B.length=P.length→(∀p∈B,p.1≤p.2∧p.1.natAbs≤3000000∧p.2.natAbs≤6000000)→Q (.ref m) T
 | _=>False
theorem zuQ:Ln (zgJ) 4:=fun ds S Q ex h=>by unfold zgJ at h; split at h <;> first | rfl | exact h.elim
def zfT:Sd:=fun ds S Q ex=>match ds with
 | [.int T,.int B]=>(0 < B∧Sz 4000 B)∧∀t b:Int,1≤b→Int.gcd t b=1→t * B=T * b→t.natAbs≤T.natAbs→b≤B→Q (.tup [.int t,.int b]) S
 | _=>False
theorem zxi:Ln (zfT) 2:=fun ds S Q ex h=>by unfold zfT at h; split at h <;> first | rfl | exact h.elim
def zeh:Sd:=fun ds S Q ex=>match ds with
 | [.ref a,d]=>∃(q:Nat) (v:Nd) (ns:List Nd) (ws:List Nat),d=v.d∧S[a]?=some (.lst (ns.map Nd.d))∧ns.length < 900∧zaG q ns ws∧v.ok ns.length q∧v.wt ws≤16∧∀(T:Sto) (j:Nat) (ns':List Nd) (ws':List Nat),Gr q a 1 S ns ws T ns' ws'→j < ns'.length→ns'[j]?=some v→ws'.getD j 0=v.wt ws→(∀P,gt (zaq P ns') (j:Int)=v.due (zaq P ns) P)→Q (.int (j:Int)) T
 | _=>False
theorem zuj:Ln (zeh) 2:=fun ds S Q ex h=>by unfold zeh at h; split at h <;> first | rfl | exact h.elim
def zhq:Sd:=fun ds S Q ex=>match ds with
 | [.ref a,.ref p]=>∃(q B:Nat) (ns:List Nd) (ws is:List Nat),S[a]?=some (.lst (ns.map Nd.d))∧S[p]?=some (.lst (is.map wtD))∧a≠p∧zaG q ns ws∧(1≤is.length∧is.length≤5)∧is.length * B≤16∧ns.length < 800∧(∀i∈is,i < ns.length∧ws.getD i 0≤B)∧∀(T:Sto) (j:Nat) (ns':List Nd) (ws':List Nat),Gr q a 5 S ns ws T ns' ws'→j < ns'.length→ws'.getD j 0≤is.length * B→(∀P,(∀i∈is,(gt (zaq P ns) (i:Int)).1=0)→(gt (zaq P ns') (j:Int)).1=0)→Q (.int (j:Int)) T
 | _=>False
theorem zro:Ln (zhq) 2:=fun ds S Q ex h=>by unfold zhq at h; split at h <;> first | rfl | exact h.elim
def zgM:Sd:=fun ds S Q ex=>match ds with
 | [.ref sc,.ref a,.ref f]=>∃(cs:List Int) (q:Nat) (P:List (Int×Int)) (ns:List Nd) (ws fs:List Nat),S[sc]?=some (.frz (cs.map D.int))∧S[a]?=some (.lst (ns.map Nd.d))∧S[f]?=some (.lst (fs.map wtD))∧a≠f∧zaG q ns ws∧(1≤fs.length∧fs.length≤2)∧ns.length < 300∧(∀f∈fs,Zr P ns ws 2 f)∧∀(T:Sto) (m:Nat) (rs:List Nat) (ns':List Nd) (ws':List Nat),Gr q a 40 S ns ws T ns' ws'→T[m]?=some (.lst (rs.map fun i=>rwD (true,i)))→rs.length=fs.length→(∀i∈rs,Zr P ns' ws' 16 i)→S.length≤m→Q (.ref m) T
 | _=>False
theorem zrY:Ln (zgM) 3:=fun ds S Q ex h=>by unfold zgM at h; split at h <;> first | rfl | exact h.elim
def zg8:Sd:=fun ds S Q ex=>match ds with
 | [.ref r]=>∃rows:List (Bool×Nat),S[r]?=some (.lst (rows.map rwD))∧rows.length≤900∧Q (.ref S.length) (S++[.lst ((eqs rows).map wtD)])
 | _=>False
theorem zwu:Ln (zg8) 1:=fun ds S Q ex h=>by unfold zg8 at h; split at h <;> first | rfl | exact h.elim
def zfN:Sd:=fun ds S Q ex=>match ds with
 | [.ref e,.ref p]=>∃(xs:List D) (is:List Nat),S[e]?=some (.lst xs)∧S[p]?=some (.lst (is.map wtD))∧is.length≤900∧(∀i∈is,i < xs.length)∧Q (.ref S.length) (S++[.lst (is.map fun i=>xs.getD i .non)])
 | _=>False
theorem zsG:Ln (zfN) 2:=fun ds S Q ex h=>by unfold zfN at h; split at h <;> first | rfl | exact h.elim
def zgs:Sd:=fun ds S Q ex=>match ds with
 | [.tup [.int a,.int b],.tup [.int c,.int d]]=>(IntMulOk a d∧IntMulOk c b)∧Q (.bl (decide (a * d < c * b))) S
 | _=>False
theorem ztS:Ln (zgs) 2:=fun ds S Q ex h=>by unfold zgs at h; split at h <;> first | rfl | exact h.elim
def zd2:Sd:=fun ds S Q ex=>match ds with
 | [.int t,.int b]=>CFd 0 b∧Q (.int (-(-t / b))) S
 | _=>False
theorem zsB:Ln (zd2) 2:=fun ds S Q ex h=>by unfold zd2 at h; split at h <;> first | rfl | exact h.elim
def zhT:Sd:=fun ds S Q ex=>match ds with
 | [.tup [.int a,.int b],.tup [.int c,.int d],.int g]=>((IntMulOk c b∧IntMulOk a d)∧¬ c * b < a * d∧IntMulOk a g∧IntMulOk c g∧CFd 0 b∧CFd 0 d)∧Q (.tup [.int (a * g / b),.int (-(-(c * g) / d))]) S
 | _=>False
theorem zsC:Ln (zhT) 3:=fun ds S Q ex h=>by unfold zhT at h; split at h <;> first | rfl | exact h.elim
def zeI (cNumber:Addr)(cUnknown:Addr)(cPlus:Addr)(cMinus:Addr)(cTimes:Addr)(cPower:Addr):Sd:=fun ds S Q ex=>match ds with
 | [.ref n,.ref w,.ref p,.int g]=>∃(x y:Int) (vs bs:List (Int×Int)),S[n]?=some (Nd.ob cNumber cUnknown cPlus cMinus cTimes cPower (Nd.number x y))∧S[w]?=some (.lst (vs.map frD))∧S[p]?=some (.lst (bs.map frD))∧Nd.ok vs.length bs.length (Nd.number x y)∧Spn 1400 vs∧(1≤g∧g≤1000000)∧Q (frD (Nd.fw vs bs g (Nd.number x y))) S
 | _=>False
theorem zr9 (cNumber:Addr)(cUnknown:Addr)(cPlus:Addr)(cMinus:Addr)(cTimes:Addr)(cPower:Addr):Ln (zeI cNumber cUnknown cPlus cMinus cTimes cPower) 4:=fun ds S Q ex h=>by unfold zeI at h; split at h <;> first | rfl | exact h.elim
def ze4 (cNumber:Addr)(cUnknown:Addr)(cPlus:Addr)(cMinus:Addr)(cTimes:Addr)(cPower:Addr):Sd:=fun ds S Q ex=>match ds with
 | [.ref n,.ref w,.ref p,.int g]=>∃(k:Int) (vs bs:List (Int×Int)),S[n]?=some (Nd.ob cNumber cUnknown cPlus cMinus cTimes cPower (Nd.unknown k))∧S[w]?=some (.lst (vs.map frD))∧S[p]?=some (.lst (bs.map frD))∧Nd.ok vs.length bs.length (Nd.unknown k)∧Spn 1400 vs∧(1≤g∧g≤1000000)∧Q (frD (Nd.fw vs bs g (Nd.unknown k))) S
 | _=>False
theorem zx1 (cNumber:Addr)(cUnknown:Addr)(cPlus:Addr)(cMinus:Addr)(cTimes:Addr)(cPower:Addr):Ln (ze4 cNumber cUnknown cPlus cMinus cTimes cPower) 4:=fun ds S Q ex h=>by unfold ze4 at h; split at h <;> first | rfl | exact h.elim
def zde:Sd:=fun ds S Q ex=>match ds with
 | [.tup [.int a,.int b],.tup [.int c,.int d]]=>Q (.tup [.int (a + c),.int (b + d)]) S
 | _=>False
theorem zwm:Ln (zde) 2:=fun ds S Q ex h=>by unfold zde at h; split at h <;> first | rfl | exact h.elim
def zeX (cNumber:Addr)(cUnknown:Addr)(cPlus:Addr)(cMinus:Addr)(cTimes:Addr)(cPower:Addr):Sd:=fun ds S Q ex=>match ds with
 | [.ref n,.ref w,.ref p,.int g]=>∃(i j:Int) (vs bs:List (Int×Int)),S[n]?=some (Nd.ob cNumber cUnknown cPlus cMinus cTimes cPower (Nd.plus i j))∧S[w]?=some (.lst (vs.map frD))∧S[p]?=some (.lst (bs.map frD))∧Nd.ok vs.length bs.length (Nd.plus i j)∧Spn 1400 vs∧(1≤g∧g≤1000000)∧Q (frD (Nd.fw vs bs g (Nd.plus i j))) S
 | _=>False
theorem zsA (cNumber:Addr)(cUnknown:Addr)(cPlus:Addr)(cMinus:Addr)(cTimes:Addr)(cPower:Addr):Ln (zeX cNumber cUnknown cPlus cMinus cTimes cPower) 4:=fun ds S Q ex h=>by unfold zeX at h; split at h <;> first | rfl | exact h.elim
def zdT:Sd:=fun ds S Q ex=>match ds with
 | [.tup [.int a,.int b],.tup [.int c,.int d]]=>Q (.tup [.int (a - d),.int (b - c)]) S
 | _=>False
theorem zw2:Ln (zdT) 2:=fun ds S Q ex h=>by unfold zdT at h; split at h <;> first | rfl | exact h.elim
def zeF (cNumber:Addr)(cUnknown:Addr)(cPlus:Addr)(cMinus:Addr)(cTimes:Addr)(cPower:Addr):Sd:=fun ds S Q ex=>match ds with
 | [.ref n,.ref w,.ref p,.int g]=>∃(i j:Int) (vs bs:List (Int×Int)),S[n]?=some (Nd.ob cNumber cUnknown cPlus cMinus cTimes cPower (Nd.minus i j))∧S[w]?=some (.lst (vs.map frD))∧S[p]?=some (.lst (bs.map frD))∧Nd.ok vs.length bs.length (Nd.minus i j)∧Spn 1400 vs∧(1≤g∧g≤1000000)∧Q (frD (Nd.fw vs bs g (Nd.minus i j))) S
 | _=>False
theorem zxF (cNumber:Addr)(cUnknown:Addr)(cPlus:Addr)(cMinus:Addr)(cTimes:Addr)(cPower:Addr):Ln (zeF cNumber cUnknown cPlus cMinus cTimes cPower) 4:=fun ds S Q ex h=>by unfold zeF at h; split at h <;> first | rfl | exact h.elim
def zdK:Sd:=fun ds S Q ex=>match ds with
 | [.tup [.int a,.int b],.tup [.int c,.int d],.int g]=>((IntMulOk a c∧IntMulOk a d∧IntMulOk b c∧IntMulOk b d)∧CFd 0 g)∧∀mn mx:Int,zeE a b c d mn mx→Q (.tup [.int (mn / g),.int (-(-mx / g))]) S
 | _=>False
theorem zrr:Ln (zdK) 3:=fun ds S Q ex h=>by unfold zdK at h; split at h <;> first | rfl | exact h.elim
def zfC (cNumber:Addr)(cUnknown:Addr)(cPlus:Addr)(cMinus:Addr)(cTimes:Addr)(cPower:Addr):Sd:=fun ds S Q ex=>match ds with
 | [.ref n,.ref w,.ref p,.int g]=>∃(i j:Int) (vs bs:List (Int×Int)),S[n]?=some (Nd.ob cNumber cUnknown cPlus cMinus cTimes cPower (Nd.times i j))∧S[w]?=some (.lst (vs.map frD))∧S[p]?=some (.lst (bs.map frD))∧Nd.ok vs.length bs.length (Nd.times i j)∧Spn 1400 vs∧(1≤g∧g≤1000000)∧Q (frD (Nd.fw vs bs g (Nd.times i j))) S
 | _=>False
theorem zxM (cNumber:Addr)(cUnknown:Addr)(cPlus:Addr)(cMinus:Addr)(cTimes:Addr)(cPower:Addr):Ln (zfC cNumber cUnknown cPlus cMinus cTimes cPower) 4:=fun ds S Q ex h=>by unfold zfC at h; split at h <;> first | rfl | exact h.elim
def zhd:Sd:=fun ds S Q ex=>match ds with
 | [.int x,.int n]=>(0≤n∧n≤6∧Sz 2000 x)∧Q (.int (x ^ n.toNat)) S
 | _=>False
theorem zw6:Ln (zhd) 2:=fun ds S Q ex h=>by unfold zhd at h; split at h <;> first | rfl | exact h.elim
def zeZ:Sd:=fun ds S Q ex=>match ds with
 | [.tup [.int a,.int b],.int n,.int g]=>(1≤n∧n≤6∧Sz 1400 a∧Sz 1400 b∧1≤g∧Sz 1400 g)∧∀m M:Int,zdw a b n.toNat m M→Q (.tup [.int (m / g ^ (n.toNat - 1)),.int (-(-M / g ^ (n.toNat - 1)))]) S
 | _=>False
theorem zrL:Ln (zeZ) 3:=fun ds S Q ex h=>by unfold zeZ at h; split at h <;> first | rfl | exact h.elim
def zeU (cNumber:Addr)(cUnknown:Addr)(cPlus:Addr)(cMinus:Addr)(cTimes:Addr)(cPower:Addr):Sd:=fun ds S Q ex=>match ds with
 | [.ref n,.ref w,.ref p,.int g]=>∃(i m:Int) (vs bs:List (Int×Int)),S[n]?=some (Nd.ob cNumber cUnknown cPlus cMinus cTimes cPower (Nd.power i m))∧S[w]?=some (.lst (vs.map frD))∧S[p]?=some (.lst (bs.map frD))∧Nd.ok vs.length bs.length (Nd.power i m)∧Spn 1400 vs∧(1≤g∧g≤1000000)∧Q (frD (Nd.fw vs bs g (Nd.power i m))) S
 | _=>False
theorem zsI (cNumber:Addr)(cUnknown:Addr)(cPlus:Addr)(cMinus:Addr)(cTimes:Addr)(cPower:Addr):Ln (zeU cNumber cUnknown cPlus cMinus cTimes cPower) 4:=fun ds S Q ex h=>by unfold zeU at h; split at h <;> first | rfl | exact h.elim
def zf9 (cPower:Addr):Sd:=fun ds S Q ex=>match ds with
 | [.ref n,x,y]=>∃T:Sto,S=T++[.ins cPower []]∧n=T.length∧Q .non (T++[.ins cPower [("one",x),("many",y)]])
 | _=>False
theorem zv7 (cPower:Addr):Ln (zf9 cPower) 3:=fun ds S Q ex h=>by unfold zf9 at h; split at h <;> first | rfl | exact h.elim
def zin (cNumber:Addr):Sd:=fun ds S Q ex=>match ds with
 | [.ref n,x,y]=>∃T:Sto,S=T++[.ins cNumber []]∧n=T.length∧Q .non (T++[.ins cNumber [("top",x),("bottom",y)]])
 | _=>False
theorem zxI (cNumber:Addr):Ln (zin cNumber) 3:=fun ds S Q ex h=>by unfold zin at h; split at h <;> first | rfl | exact h.elim
def zh7 (cUnknown:Addr):Sd:=fun ds S Q ex=>match ds with
 | [.ref n,x]=>∃T:Sto,S=T++[.ins cUnknown []]∧n=T.length∧Q .non (T++[.ins cUnknown [("place",x)]])
 | _=>False
theorem zsW (cUnknown:Addr):Ln (zh7 cUnknown) 2:=fun ds S Q ex h=>by unfold zh7 at h; split at h <;> first | rfl | exact h.elim
def zij (cPlus:Addr):Sd:=fun ds S Q ex=>match ds with
 | [.ref n,x,y]=>∃T:Sto,S=T++[.ins cPlus []]∧n=T.length∧Q .non (T++[.ins cPlus [("one",x),("other",y)]])
 | _=>False
theorem zwP (cPlus:Addr):Ln (zij cPlus) 3:=fun ds S Q ex h=>by unfold zij at h; split at h <;> first | rfl | exact h.elim
def zgv (cMinus:Addr):Sd:=fun ds S Q ex=>match ds with
 | [.ref n,x,y]=>∃T:Sto,S=T++[.ins cMinus []]∧n=T.length∧Q .non (T++[.ins cMinus [("one",x),("other",y)]])
 | _=>False
theorem zr8 (cMinus:Addr):Ln (zgv cMinus) 3:=fun ds S Q ex h=>by unfold zgv at h; split at h <;> first | rfl | exact h.elim
def zhe (cTimes:Addr):Sd:=fun ds S Q ex=>match ds with
 | [.ref n,x,y]=>∃T:Sto,S=T++[.ins cTimes []]∧n=T.length∧Q .non (T++[.ins cTimes [("one",x),("other",y)]])
 | _=>False
theorem zw7 (cTimes:Addr):Ln (zhe cTimes) 3:=fun ds S Q ex h=>by unfold zhe at h; split at h <;> first | rfl | exact h.elim
def zfy (cNumber:Addr)(cUnknown:Addr)(cPlus:Addr)(cMinus:Addr)(cTimes:Addr)(cPower:Addr):Sd:=fun ds S Q ex=>match ds with
 | [d]=>∃v:Nd,d=v.d∧Q (.ref S.length) (S++[v.ob cNumber cUnknown cPlus cMinus cTimes cPower])
 | _=>False
theorem zv9 (cNumber:Addr)(cUnknown:Addr)(cPlus:Addr)(cMinus:Addr)(cTimes:Addr)(cPower:Addr):Ln (zfy cNumber cUnknown cPlus cMinus cTimes cPower) 1:=fun ds S Q ex h=>by unfold zfy at h; split at h <;> first | rfl | exact h.elim
def zeo:Sd:=fun ds S Q ex=>match ds with
 | [.ref a,.ref b,.int g]=>∃(ns:List Nd) (ws:List Nat) (bs:List (Int×Int)),S[a]?=some (.lst (ns.map Nd.d))∧S[b]?=some (.lst (bs.map frD))∧zaG bs.length ns ws∧Spn 51 bs∧(1≤g∧g≤1000000)∧ns.length≤70∧∀(T:Sto) (m:Nat),Pre S T→S.length≤m→T[m]?=some (.lst ((zar bs g ns).map frD))→Q (.ref m) T
 | _=>False
theorem zt7:Ln (zeo) 3:=fun ds S Q ex h=>by unfold zeo at h; split at h <;> first | rfl | exact h.elim
def zfr (cNumber:Addr)(cUnknown:Addr)(cPlus:Addr)(cMinus:Addr)(cTimes:Addr)(cPower:Addr):Sd:=fun ds S Q ex=>match ds with
 | [.ref n,.ref w,.ref s,.int qi,.int g]=>∃(x y:Int) (q:Nat) (vs:List (Int×Int)) (sl:List (List (Int×Int))) (ds:List D),S[n]?=some (Nd.ob cNumber cUnknown cPlus cMinus cTimes cPower (Nd.number x y))∧S[w]?=some (.lst (vs.map frD))∧S[s]?=some (.lst ds)∧zaX S 0 ds sl∧(∀i:Int,inR sl.length i→(sl.getD i.toNat []).length=q∧∀l,l < q→(gs sl i l).1≤(gs sl i l).2∧Sz 1100 (gs sl i l).1∧Sz 1100 (gs sl i l).2)∧(qi=(q:Nat)∧q≤900)∧Nd.ok sl.length q (Nd.number x y)∧sl.length≤vs.length∧Spn 1000 vs∧(1≤g∧g≤1000000)∧∀(T:Sto) (mm:Nat),Pre S T→S.length≤mm→T[mm]?=some (.lst ((zbf vs sl g q (Nd.number x y)).map frD))→Q (.ref mm) T
 | _=>False
theorem zs3 (cNumber:Addr)(cUnknown:Addr)(cPlus:Addr)(cMinus:Addr)(cTimes:Addr)(cPower:Addr):Ln (zfr cNumber cUnknown cPlus cMinus cTimes cPower) 5:=fun ds S Q ex h=>by unfold zfr at h; split at h <;> first | rfl | exact h.elim
def zeT (cNumber:Addr)(cUnknown:Addr)(cPlus:Addr)(cMinus:Addr)(cTimes:Addr)(cPower:Addr):Sd:=fun ds S Q ex=>match ds with
 | [.ref n,.ref w,.ref s,.int qi,.int g]=>∃(k:Int) (q:Nat) (vs:List (Int×Int)) (sl:List (List (Int×Int))) (ds:List D),S[n]?=some (Nd.ob cNumber cUnknown cPlus cMinus cTimes cPower (Nd.unknown k))∧S[w]?=some (.lst (vs.map frD))∧S[s]?=some (.lst ds)∧zaX S 0 ds sl∧(∀i:Int,inR sl.length i→(sl.getD i.toNat []).length=q∧∀l,l < q→(gs sl i l).1≤(gs sl i l).2∧Sz 1100 (gs sl i l).1∧Sz 1100 (gs sl i l).2)∧(qi=(q:Nat)∧q≤900)∧Nd.ok sl.length q (Nd.unknown k)∧sl.length≤vs.length∧Spn 1000 vs∧(1≤g∧g≤1000000)∧∀(T:Sto) (mm:Nat),Pre S T→S.length≤mm→T[mm]?=some (.lst ((zbf vs sl g q (Nd.unknown k)).map frD))→Q (.ref mm) T
 | _=>False
theorem zw3 (cNumber:Addr)(cUnknown:Addr)(cPlus:Addr)(cMinus:Addr)(cTimes:Addr)(cPower:Addr):Ln (zeT cNumber cUnknown cPlus cMinus cTimes cPower) 5:=fun ds S Q ex h=>by unfold zeT at h; split at h <;> first | rfl | exact h.elim
def zh4 (cPlus:Addr):Sd:=fun ds S Q ex=>match ds with
 | [.ref _,_,_,.tup [.int a,.int b],.tup [.int c,.int d],.int _]=>Q (.tup [.int (a + c),.int (b + d)]) S
 | _=>False
theorem zw9 (cPlus:Addr):Ln (zh4 cPlus) 6:=fun ds S Q ex h=>by unfold zh4 at h; split at h <;> first | rfl | exact h.elim
def zfH (cNumber:Addr)(cUnknown:Addr)(cPlus:Addr)(cMinus:Addr)(cTimes:Addr)(cPower:Addr):Sd:=fun ds S Q ex=>match ds with
 | [.ref n,.ref w,.ref s,.int qi,.int g]=>∃(i j:Int) (q:Nat) (vs:List (Int×Int)) (sl:List (List (Int×Int))) (ds:List D),S[n]?=some (Nd.ob cNumber cUnknown cPlus cMinus cTimes cPower (Nd.plus i j))∧S[w]?=some (.lst (vs.map frD))∧S[s]?=some (.lst ds)∧zaX S 0 ds sl∧(∀i:Int,inR sl.length i→(sl.getD i.toNat []).length=q∧∀l,l < q→(gs sl i l).1≤(gs sl i l).2∧Sz 1100 (gs sl i l).1∧Sz 1100 (gs sl i l).2)∧(qi=(q:Nat)∧q≤900)∧Nd.ok sl.length q (Nd.plus i j)∧sl.length≤vs.length∧Spn 1000 vs∧(1≤g∧g≤1000000)∧∀(T:Sto) (mm:Nat),Pre S T→S.length≤mm→T[mm]?=some (.lst ((zbf vs sl g q (Nd.plus i j)).map frD))→Q (.ref mm) T
 | _=>False
theorem zvG (cNumber:Addr)(cUnknown:Addr)(cPlus:Addr)(cMinus:Addr)(cTimes:Addr)(cPower:Addr):Ln (zfH cNumber cUnknown cPlus cMinus cTimes cPower) 5:=fun ds S Q ex h=>by unfold zfH at h; split at h <;> first | rfl | exact h.elim
def ziD (cMinus:Addr):Sd:=fun ds S Q ex=>match ds with
 | [.ref _,_,_,.tup [.int a,.int b],.tup [.int c,.int d],.int _]=>Q (.tup [.int (a - d),.int (b - c)]) S
 | _=>False
theorem zxd (cMinus:Addr):Ln (ziD cMinus) 6:=fun ds S Q ex h=>by unfold ziD at h; split at h <;> first | rfl | exact h.elim
def zez (cNumber:Addr)(cUnknown:Addr)(cPlus:Addr)(cMinus:Addr)(cTimes:Addr)(cPower:Addr):Sd:=fun ds S Q ex=>match ds with
 | [.ref n,.ref w,.ref s,.int qi,.int g]=>∃(i j:Int) (q:Nat) (vs:List (Int×Int)) (sl:List (List (Int×Int))) (ds:List D),S[n]?=some (Nd.ob cNumber cUnknown cPlus cMinus cTimes cPower (Nd.minus i j))∧S[w]?=some (.lst (vs.map frD))∧S[s]?=some (.lst ds)∧zaX S 0 ds sl∧(∀i:Int,inR sl.length i→(sl.getD i.toNat []).length=q∧∀l,l < q→(gs sl i l).1≤(gs sl i l).2∧Sz 1100 (gs sl i l).1∧Sz 1100 (gs sl i l).2)∧(qi=(q:Nat)∧q≤900)∧Nd.ok sl.length q (Nd.minus i j)∧sl.length≤vs.length∧Spn 1000 vs∧(1≤g∧g≤1000000)∧∀(T:Sto) (mm:Nat),Pre S T→S.length≤mm→T[mm]?=some (.lst ((zbf vs sl g q (Nd.minus i j)).map frD))→Q (.ref mm) T
 | _=>False
theorem zxo (cNumber:Addr)(cUnknown:Addr)(cPlus:Addr)(cMinus:Addr)(cTimes:Addr)(cPower:Addr):Ln (zez cNumber cUnknown cPlus cMinus cTimes cPower) 5:=fun ds S Q ex h=>by unfold zez at h; split at h <;> first | rfl | exact h.elim
def zh5 (cTimes:Addr):Sd:=fun ds S Q ex=>match ds with
 | [.ref _,.tup [.int x1,.int x2],.tup [.int y1,.int y2],.tup [.int a,.int b],.tup [.int c,.int d],.int g]=>(Sz 1400 x1∧Sz 1400 x2∧Sz 1400 y1∧Sz 1400 y2∧Sz 1400 a∧Sz 1400 b∧Sz 1400 c∧Sz 1400 d∧1≤g∧g≤1000000)∧Q (.tup [.int ((zaV (x1,x2) (c,d) g).1 + (zaV (y1,y2) (a,b) g).1),.int ((zaV (x1,x2) (c,d) g).2 + (zaV (y1,y2) (a,b) g).2)]) S
 | _=>False
theorem zyf (cTimes:Addr):Ln (zh5 cTimes) 6:=fun ds S Q ex h=>by unfold zh5 at h; split at h <;> first | rfl | exact h.elim
def zfl (cNumber:Addr)(cUnknown:Addr)(cPlus:Addr)(cMinus:Addr)(cTimes:Addr)(cPower:Addr):Sd:=fun ds S Q ex=>match ds with
 | [.ref n,.ref w,.ref s,.int qi,.int g]=>∃(i j:Int) (q:Nat) (vs:List (Int×Int)) (sl:List (List (Int×Int))) (ds:List D),S[n]?=some (Nd.ob cNumber cUnknown cPlus cMinus cTimes cPower (Nd.times i j))∧S[w]?=some (.lst (vs.map frD))∧S[s]?=some (.lst ds)∧zaX S 0 ds sl∧(∀i:Int,inR sl.length i→(sl.getD i.toNat []).length=q∧∀l,l < q→(gs sl i l).1≤(gs sl i l).2∧Sz 1100 (gs sl i l).1∧Sz 1100 (gs sl i l).2)∧(qi=(q:Nat)∧q≤900)∧Nd.ok sl.length q (Nd.times i j)∧sl.length≤vs.length∧Spn 1000 vs∧(1≤g∧g≤1000000)∧∀(T:Sto) (mm:Nat),Pre S T→S.length≤mm→T[mm]?=some (.lst ((zbf vs sl g q (Nd.times i j)).map frD))→Q (.ref mm) T
 | _=>False
theorem zvC (cNumber:Addr)(cUnknown:Addr)(cPlus:Addr)(cMinus:Addr)(cTimes:Addr)(cPower:Addr):Ln (zfl cNumber cUnknown cPlus cMinus cTimes cPower) 5:=fun ds S Q ex h=>by unfold zfl at h; split at h <;> first | rfl | exact h.elim
def zh0:Sd:=fun ds S Q ex=>match ds with
 | [.tup [.int a,.int b],.int m]=>(IntMulOk a m∧IntMulOk b m)∧Q (.tup [.int (if b * m < a * m then b * m else a * m),.int (if b * m > a * m then b * m else a * m)]) S
 | _=>False
theorem ztr:Ln (zh0) 2:=fun ds S Q ex h=>by unfold zh0 at h; split at h <;> first | rfl | exact h.elim
def zeR (cNumber:Addr)(cUnknown:Addr)(cPlus:Addr)(cMinus:Addr)(cTimes:Addr)(cPower:Addr):Sd:=fun ds S Q ex=>match ds with
 | [.ref n,.ref w,.ref s,.int qi,.int g]=>∃(i m:Int) (q:Nat) (vs:List (Int×Int)) (sl:List (List (Int×Int))) (ds:List D),S[n]?=some (Nd.ob cNumber cUnknown cPlus cMinus cTimes cPower (Nd.power i m))∧S[w]?=some (.lst (vs.map frD))∧S[s]?=some (.lst ds)∧zaX S 0 ds sl∧(∀i:Int,inR sl.length i→(sl.getD i.toNat []).length=q∧∀l,l < q→(gs sl i l).1≤(gs sl i l).2∧Sz 1100 (gs sl i l).1∧Sz 1100 (gs sl i l).2)∧(qi=(q:Nat)∧q≤900)∧Nd.ok sl.length q (Nd.power i m)∧sl.length≤vs.length∧Spn 1000 vs∧(1≤g∧g≤1000000)∧∀(T:Sto) (mm:Nat),Pre S T→S.length≤mm→T[mm]?=some (.lst ((zbf vs sl g q (Nd.power i m)).map frD))→Q (.ref mm) T
 | _=>False
theorem zt4 (cNumber:Addr)(cUnknown:Addr)(cPlus:Addr)(cMinus:Addr)(cTimes:Addr)(cPower:Addr):Ln (zeR cNumber cUnknown cPlus cMinus cTimes cPower) 5:=fun ds S Q ex h=>by unfold zeR at h; split at h <;> first | rfl | exact h.elim
def zil:Sd:=fun ds S Q ex=>match ds with
 | [.ref a,.ref b,.int g]=>∃(ns:List Nd) (ws:List Nat) (bs:List (Int×Int)),S[a]?=some (.lst (ns.map Nd.d))∧S[b]?=some (.lst (bs.map frD))∧zaG bs.length ns ws∧Spn 51 bs∧bs.length≤900∧(1≤g∧g≤1000000)∧ns.length≤70∧∀(T:Sto) (m:Nat) (ds:List D),Pre S T→S.length≤m→T[m]?=some (.lst ds)→zaX T (m + 1) ds (zaM (zar bs g ns) g bs.length ns)→Q (.ref m) T
 | _=>False
theorem zrU:Ln (zil) 3:=fun ds S Q ex h=>by unfold zil at h; split at h <;> first | rfl | exact h.elim
def zhf:Sd:=fun ds S Q ex=>match ds with
 | [.ref a,.ref p,.ref b,.int g]=>∃(ns:List Nd) (ws:List Nat) (bs:List (Int×Int)) (is:List Nat),S[a]?=some (.lst (ns.map Nd.d))∧S[b]?=some (.lst (bs.map frD))∧zaG bs.length ns ws∧Spn 51 bs∧(1≤g∧g≤1000000)∧ns.length≤70∧bs.length≤900∧S[p]?=some (.lst (is.map wtD))∧is.length≤900∧(∀i∈is,i < ns.length)∧∀(T:Sto) (m:Nat) (ds:List D),Pre S T→S.length≤m→T[m]?=some (.lst ds)→zaX T 0 ds (is.map fun (i:Nat)=>(zaM (zar bs g ns) g bs.length ns).getD i [])→Q (.ref m) T
 | _=>False
theorem zxs:Ln (zhf) 4:=fun ds S Q ex h=>by unfold zhf at h; split at h <;> first | rfl | exact h.elim
def zdD:Sd:=fun ds S Q ex=>match ds with
 | [.int i,.int k]=>∃n:Nat,k=n∧Q (.int (sgn i n)) S
 | _=>False
theorem zvf:Ln (zdD) 2:=fun ds S Q ex h=>by unfold zdD at h; split at h <;> first | rfl | exact h.elim
def zdR:Sd:=fun ds S Q ex=>match ds with
 | [.ref m,.int r,.int c]=>∃(M:List (List Int)) (i j n:Nat),r=i∧c=j∧zbo S m M∧Sq (n + 1) M∧n≤3∧i≤n∧j≤n∧∀(T:Sto) (k:Nat),Pre S T→zbo T k (za5 M i j)→Q (.ref k) T
 | _=>False
theorem zt9:Ln (zdR) 3:=fun ds S Q ex h=>by unfold zdR at h; split at h <;> first | rfl | exact h.elim
def zfL:Sd:=fun ds S Q ex=>match ds with
 | [.ref m,.int r,.int c]=>∃(M:List (List Int)) (i j n:Nat),n≤0∧r=i∧c=j∧i≤n∧j≤n∧zbo S m M∧Sq (n + 1) M∧Big M∧Q (.int (sgn (zaI n (za5 M i j)) (i + j))) S
 | _=>False
theorem zvW:Ln (zfL) 3:=fun ds S Q ex h=>by unfold zfL at h; split at h <;> first | rfl | exact h.elim
def zfK:Sd:=fun ds S Q ex=>match ds with
 | [.ref m,.int r,.int c]=>∃(M:List (List Int)) (i j n:Nat),n≤1∧r=i∧c=j∧i≤n∧j≤n∧zbo S m M∧Sq (n + 1) M∧Big M∧Q (.int (sgn (zaI n (za5 M i j)) (i + j))) S
 | _=>False
theorem zsi:Ln (zfK) 3:=fun ds S Q ex h=>by unfold zfK at h; split at h <;> first | rfl | exact h.elim
def zfp:Sd:=fun ds S Q ex=>match ds with
 | [.ref m,.int r,.int c]=>∃(M:List (List Int)) (i j n:Nat),n≤2∧r=i∧c=j∧i≤n∧j≤n∧zbo S m M∧Sq (n + 1) M∧Big M∧Q (.int (sgn (zaI n (za5 M i j)) (i + j))) S
 | _=>False
theorem zxP:Ln (zfp) 3:=fun ds S Q ex h=>by unfold zfp at h; split at h <;> first | rfl | exact h.elim
def zd7:Sd:=fun ds S Q ex=>match ds with
 | [.ref m,.int r,.int c]=>∃(M:List (List Int)) (i j n:Nat),n≤3∧r=i∧c=j∧i≤n∧j≤n∧zbo S m M∧Sq (n + 1) M∧Big M∧Q (.int (sgn (zaI n (za5 M i j)) (i + j))) S
 | _=>False
theorem zvn:Ln (zd7) 3:=fun ds S Q ex h=>by unfold zd7 at h; split at h <;> first | rfl | exact h.elim
def zg3:Sd:=fun ds S Q ex=>match ds with
 | [.ref m]=>∃(M:List (List Int)) (n:Nat),n≤0∧zbo S m M∧Sq n M∧Big M∧Q (.int (zaI n M)) S
 | _=>False
theorem zvq:Ln (zg3) 1:=fun ds S Q ex h=>by unfold zg3 at h; split at h <;> first | rfl | exact h.elim
def zfY:Sd:=fun ds S Q ex=>match ds with
 | [.ref m]=>∃(M:List (List Int)) (n:Nat),n≤1∧zbo S m M∧Sq n M∧Big M∧Q (.int (zaI n M)) S
 | _=>False
theorem zu4:Ln (zfY) 1:=fun ds S Q ex h=>by unfold zfY at h; split at h <;> first | rfl | exact h.elim
def zic:Sd:=fun ds S Q ex=>match ds with
 | [.ref m]=>∃(M:List (List Int)) (n:Nat),n≤2∧zbo S m M∧Sq n M∧Big M∧Q (.int (zaI n M)) S
 | _=>False
theorem zsU:Ln (zic) 1:=fun ds S Q ex h=>by unfold zic at h; split at h <;> first | rfl | exact h.elim
def zg1:Sd:=fun ds S Q ex=>match ds with
 | [.ref m]=>∃(M:List (List Int)) (n:Nat),n≤3∧zbo S m M∧Sq n M∧Big M∧Q (.int (zaI n M)) S
 | _=>False
theorem zuP:Ln (zg1) 1:=fun ds S Q ex h=>by unfold zg1 at h; split at h <;> first | rfl | exact h.elim
def zhi:Sd:=fun ds S Q ex=>match ds with
 | [.ref m]=>∃(M:List (List Int)) (n:Nat),n≤4∧zbo S m M∧Sq n M∧Big M∧Q (.int (zaI n M)) S
 | _=>False
theorem zsO:Ln (zhi) 1:=fun ds S Q ex h=>by unfold zhi at h; split at h <;> first | rfl | exact h.elim
def zhQ:Sd:=fun ds S Q ex=>match ds with
 | [.ref m,.int w,.int r,.int c,.int g]=>∃(M:List (List Int)) (i j n:Nat),n≤3∧r=i∧c=j∧i≤n∧j≤n∧zbo S m M∧Sq (n + 1) M∧Big M∧(w≠0∧Sz 4140 w)∧(1≤g∧g≤1000000)∧Q (.int (zg0 M n w g i j)) S
 | _=>False
theorem zvP:Ln (zhQ) 5:=fun ds S Q ex h=>by unfold zhQ at h; split at h <;> first | rfl | exact h.elim
def zgF:Sd:=fun ds S Q ex=>match ds with
 | [.ref m,.int w,.int r,.int g]=>∃(M:List (List Int)) (i n:Nat),n≤3∧r=i∧i≤n∧zbo S m M∧Sq (n + 1) M∧Big M∧(w≠0∧Sz 4140 w)∧(1≤g∧g≤1000000)∧Q (.ref S.length) (S++[.lst ((zes M n w g i).map D.int)])
 | _=>False
theorem zrh:Ln (zgF) 4:=fun ds S Q ex h=>by unfold zgF at h; split at h <;> first | rfl | exact h.elim
def zgd:Sd:=fun ds S Q ex=>match ds with
 | [.ref m,.int g]=>∃(M:List (List Int)) (n:Nat),n≤3∧zbo S m M∧Sq (n + 1) M∧Big M∧(1≤g∧g≤1000000)∧(zaI (n + 1) M=0→Q .non S)∧(zaI (n + 1) M≠0→∀(T:Sto) (k:Nat),Pre S T→zbo T k (zbN M n (zaI (n + 1) M) g)→Q (.ref k) T)
 | _=>False
theorem zth:Ln (zgd) 2:=fun ds S Q ex h=>by unfold zgd at h; split at h <;> first | rfl | exact h.elim
def zik:Sd:=fun ds S Q ex=>match ds with
 | [.tup [.int a,.int b]]=>Q (.int ((a + b) / 2)) S
 | _=>False
theorem ztK:Ln (zik) 1:=fun ds S Q ex h=>by unfold zik at h; split at h <;> first | rfl | exact h.elim
def zeW:Sd:=fun ds S Q ex=>match ds with
 | [.ref s]=>∃vs:List (Int×Int),S[s]?=some (.lst (vs.map frD))∧vs.length≤900∧Q (.ref S.length) (S++[.lst (vs.map fun p=>.int (mid p))])
 | _=>False
theorem zxR:Ln (zeW) 1:=fun ds S Q ex h=>by unfold zeW at h; split at h <;> first | rfl | exact h.elim
def zeK:Sd:=fun ds S Q ex=>match ds with
 | [.ref b]=>∃vs:List (Int×Int),S[b]?=some (.lst (vs.map frD))∧vs.length≤900∧∀(T:Sto) (m:Nat),Pre S T→S.length≤m→T[m]?=some (.lst ((vs.map zaW).map frD))→Q (.ref m) T
 | _=>False
theorem zx7:Ln (zeK) 1:=fun ds S Q ex h=>by unfold zeK at h; split at h <;> first | rfl | exact h.elim
def ze8:Sd:=fun ds S Q ex=>match ds with
 | [.ref a,.ref b,.int g]=>∃(us vs:List (Int×Int)),S[a]?=some (.lst (us.map frD))∧S[b]?=some (.lst (vs.map frD))∧us.length≤60∧Bd 20000 us∧Bd 20000 vs∧(1≤g∧g≤1000000)∧Q (frD (sumP g us vs)) S
 | _=>False
theorem zvQ:Ln (ze8) 3:=fun ds S Q ex h=>by unfold ze8 at h; split at h <;> first | rfl | exact h.elim
def zgm:Sd:=fun ds S Q ex=>match ds with
 | [.int k,.int c,.ref t,.ref s,.int g]=>∃(q kn cn:Nat) (ts:List (Int×Int)) (R:List (List (Int×Int))) (ds:List D),k=(kn:Nat)∧c=(cn:Nat)∧S[t]?=some (.lst (ts.map frD))∧S[s]?=some (.lst ds)∧zaX S 0 ds R∧(∀r∈R,r.length=q∧Bd 2000 r)∧cn < q∧ts.length≤60∧R.length≤60∧Bd 20000 ts∧(1≤g∧g≤1000000)∧Q (frD (zb6 g kn cn ts R)) S
 | _=>False
theorem zwS:Ln (zgm) 5:=fun ds S Q ex h=>by unfold zgm at h; split at h <;> first | rfl | exact h.elim
def zgI:Sd:=fun ds S Q ex=>match ds with
 | [.int ki,.ref b,.int g,.ref e,.ref t,.ref s]=>∃(k:Nat) (box thin:List (Int×Int)) (es:List Int) (R:List (List (Int×Int))) (ds:List D),ki=(k:Nat)∧k < box.length∧S[e]?=some (.lst (es.map D.int))∧es.length≤4∧(∀x∈es,Sz 4000 x)∧S[b]?=some (.lst (box.map frD))∧S[t]?=some (.lst (thin.map frD))∧S[s]?=some (.lst ds)∧zaX S 0 ds R∧(∀r∈R,r.length=box.length∧Bd 2000 r)∧(1≤box.length∧box.length≤4)∧R.length≤4∧thin.length≤4∧Bd 60 box∧Bd 2000 thin∧(1≤g∧g≤1000000)∧Q (frD (zbO g box thin R k es)) S
 | _=>False
theorem zwE:Ln (zgI) 6:=fun ds S Q ex h=>by unfold zgI at h; split at h <;> first | rfl | exact h.elim
def ziA:Sd:=fun ds S Q ex=>match ds with
 | [.ref b,.int g,.ref u,.ref t,.ref s]=>∃(box thin:List (Int×Int)) (M:List (List Int)) (ms:List D) (R:List (List (Int×Int))) (ds:List D),S[u]?=some (.lst ms)∧zfh S ms M∧M.length=box.length∧(∀r∈M,r.length≤4∧∀x∈r,Sz 4000 x)∧S[b]?=some (.lst (box.map frD))∧S[t]?=some (.lst (thin.map frD))∧S[s]?=some (.lst ds)∧zaX S 0 ds R∧(∀r∈R,r.length=box.length∧Bd 2000 r)∧(1≤box.length∧box.length≤4)∧R.length≤4∧thin.length≤4∧Bd 60 box∧Bd 2000 thin∧(1≤g∧g≤1000000)∧Q (.ref S.length) (S++[.lst ((M.mapIdx fun k es=>zbO g box thin R k es).map frD)])
 | _=>False
theorem zwL:Ln (ziA) 5:=fun ds S Q ex h=>by unfold ziA at h; split at h <;> first | rfl | exact h.elim
def zix:Sd:=fun ds S Q ex=>match ds with
 | [.ref a,.ref p,.ref b,.int g]=>∃(ns:List Nd) (ws:List Nat) (bs:List (Int×Int)) (is:List Nat),S[a]?=some (.lst (ns.map Nd.d))∧S[b]?=some (.lst (bs.map frD))∧zaG bs.length ns ws∧Spn 51 bs∧(1≤g∧g≤1000000)∧ns.length≤70∧bs.length≤900∧S[p]?=some (.lst (is.map wtD))∧is.length≤900∧(∀i∈is,i < ns.length)∧∀(T:Sto) (m:Nat),Pre S T→S.length≤m→T[m]?=some (.lst ((is.map fun (i:Nat)=>gt (zar (bs.map zaW) g ns) i).map frD))→Q (.ref m) T
 | _=>False
theorem zsD:Ln (zix) 4:=fun ds S Q ex h=>by unfold zix at h; split at h <;> first | rfl | exact h.elim
def zir:Sd:=fun ds S Q ex=>match ds with
 | [.tup [.int a,.int b],.tup [.int c,.int d]]=>Q (.bl (decide (c < a) && decide (b < d))) S
 | _=>False
theorem zxa:Ln (zir) 2:=fun ds S Q ex h=>by unfold zir at h; split at h <;> first | rfl | exact h.elim
def zhb:Sd:=fun ds S Q ex=>match ds with
 | [.ref m,.ref n]=>∃us vs:List (Int×Int),S[m]?=some (.lst (us.map frD))∧S[n]?=some (.lst (vs.map frD))∧us.length≤1000∧Q (.bl (zhv us vs)) S
 | _=>False
theorem zuC:Ln (zhb) 2:=fun ds S Q ex h=>by unfold zhb at h; split at h <;> first | rfl | exact h.elim
def zge:Sd:=fun ds S Q ex=>match ds with
 | [.str w,.tup [.int a,.int b]]=>(w="zero"∧Q (.bl (decide (a=0) && decide (b=0))) S)∨(w="least"∧Q (.bl (decide (0≤a))) S)
 | _=>False
theorem zub:Ln (zge) 2:=fun ds S Q ex h=>by unfold zge at h; split at h <;> first | rfl | exact h.elim
def ziw:Sd:=fun ds S Q ex=>match ds with
 | [.ref r,.ref s]=>∃(rows:List (Bool×Nat)) (vs:List (Int×Int)),S[r]?=some (.lst (rows.map rwD))∧S[s]?=some (.lst (vs.map frD))∧rows.length≤900∧(∀r∈rows,r.2 < vs.length)∧Q (.bl (zls rows vs)) S
 | _=>False
theorem zuB:Ln (ziw) 2:=fun ds S Q ex h=>by unfold ziw at h; split at h <;> first | rfl | exact h.elim
def zeY:Sd:=fun ds S Q ex=>match ds with
 | [.ref a,.ref r,.ref b,.int g]=>∃(ns:List Nd) (ws:List Nat) (bs:List (Int×Int)) (rows:List (Bool×Nat)),S[a]?=some (.lst (ns.map Nd.d))∧S[b]?=some (.lst (bs.map frD))∧zaG bs.length ns ws∧Spn 51 bs∧(1≤g∧g≤1000000)∧ns.length≤70∧bs.length≤900∧S[r]?=some (.lst (rows.map rwD))∧rows.length≤900∧(∀r∈rows,r.2 < ns.length)∧(1≤bs.length∧bs.length≤4)∧(alS g bs ns rows=none→∀T:Sto,Pre S T→Q .non T)∧(∀(M:List (List Int)) (near:List (Int×Int)),alS g bs ns rows=some (M,near)→∀(T:Sto) (m n:Nat) (ms:List D),Pre S T→T[m]?=some (.lst ms)→zfh T ms M→T[n]?=some (.lst (near.map frD))→S.length≤n→Q (.tup [.ref m,.ref n]) T)
 | _=>False
theorem zwz:Ln (zeY) 4:=fun ds S Q ex h=>by unfold zeY at h; split at h <;> first | rfl | exact h.elim
def zhy:Sd:=fun ds S Q ex=>match ds with
 | [.ref a,.ref r,.ref b,.int g,.int n]=>∃(ns:List Nd) (ws:List Nat) (bs:List (Int×Int)) (rows:List (Bool×Nat)) (k:Nat),n=(k:Nat)∧k≤900∧S[a]?=some (.lst (ns.map Nd.d))∧S[b]?=some (.lst (bs.map frD))∧zaG bs.length ns ws∧Spn 51 bs∧(1≤g∧g≤1000000)∧ns.length≤70∧bs.length≤900∧S[r]?=some (.lst (rows.map rwD))∧rows.length≤900∧(∀r∈rows,r.2 < ns.length)∧(1≤bs.length∧bs.length≤4)∧∀(T:Sto) (m:Nat),Pre S T→S.length≤m→T[m]?=some (.lst ((clS g ns rows k bs).map frD))→Q (.ref m) T
 | _=>False
theorem ztf:Ln (zhy) 5:=fun ds S Q ex h=>by unfold zhy at h; split at h <;> first | rfl | exact h.elim
def zh1:Sd:=fun ds S Q ex=>match ds with
 | [.ref a,.ref p,.int _]=>∃(q:Nat) (P:List (Int×Int)) (ns:List Nd) (ws:List Nat),S[a]?=some (.lst (ns.map Nd.d))∧S[p]?=some (.lst (P.map frD))∧a≠p∧zaG q ns ws∧q=P.length∧q≤4∧ns.length < 700∧(∀k:Nat,k < q→ns[k]?=some (.unknown (k:Int)))∧(∀p∈P,1≤p.2∧p.2≤10 ^ 9∧p.1.natAbs≤10 ^ 9)∧∀(T:Sto) (m:Nat) (fs:List Nat) (ns':List Nd) (ws':List Nat),Gr q a 8 S ns ws T ns' ws'→T[m]?=some (.lst (fs.map wtD))→fs.length=q→(∀f∈fs,Zr P ns' ws' 2 f)→S.length≤m→Q (.ref m) T
 | _=>False
theorem zx0:Ln (zh1) 3:=fun ds S Q ex h=>by unfold zh1 at h; split at h <;> first | rfl | exact h.elim
def zgV:Sd:=fun ds S Q ex=>match ds with
 | [.int _]=>Q (.bl true) S
 | _=>False
theorem zxB:Ln (zgV) 1:=fun ds S Q ex h=>by unfold zgV at h; split at h <;> first | rfl | exact h.elim
def zgT:Sd:=fun ds S Q ex=>match ds with
 | [.tup [.int a,.int b]]=>a≤b∧Q (.bl true) S
 | _=>False
theorem zvd:Ln (zgT) 1:=fun ds S Q ex h=>by unfold zgT at h; split at h <;> first | rfl | exact h.elim
def zgf:Sd:=fun ds S Q ex=>match ds with
 | [.ref a,.int m]=>∃vs:List (Int×Int),S[a]?=some (.lst (vs.map frD))∧m=vs.length∧(∀p∈vs,p.1≤p.2)∧Q (.bl true) S
 | _=>False
theorem zsn:Ln (zgf) 2:=fun ds S Q ex h=>by unfold zgf at h; split at h <;> first | rfl | exact h.elim
def zgo:Sd:=fun ds S Q ex=>match ds with
 | [.ref f,.ref b]=>∃us vs:List (Int×Int),S[f]?=some (.lst (us.map frD))∧S[b]?=some (.lst (vs.map frD))∧us.length=vs.length∧vs.length≤900∧(∀p∈us,p.1≤p.2)∧(∀k:Nat,k < vs.length→(gt vs (k:Int)).1≤(gt us (k:Int)).1∧(gt us (k:Int)).2≤(gt vs (k:Int)).2)∧Q (.bl true) S
 | _=>False
theorem zv5:Ln (zgo) 2:=fun ds S Q ex h=>by unfold zgo at h; split at h <;> first | rfl | exact h.elim
def zgE:Sd:=fun ds S Q ex=>match ds with
 | [.tup [.int l,.int u],.tup [.int a,.int b],.int g]=>(Sz 30000 l∧Sz 30000 u∧Sz 200 a∧Sz 200 b∧Sz 30 g)∧Q (.bl (decide (l * b≤a * g) && decide (a * g≤u * b))) S
 | _=>False
theorem ztV:Ln (zgE) 3:=fun ds S Q ex h=>by unfold zgE at h; split at h <;> first | rfl | exact h.elim
def ziC:Sd:=fun ds S Q ex=>match ds with
 | [.ref f,.ref b,.ref p,.int g]=>∃us vs P:List (Int×Int),S[f]?=some (.lst (us.map frD))∧S[b]?=some (.lst (vs.map frD))∧S[p]?=some (.lst (P.map frD))∧us.length=vs.length∧P.length=vs.length∧vs.length≤900∧Bd 60 us∧Bd 60 vs∧Bd 60 P∧(1≤g∧g≤1000000)∧(InW g vs P→InW g us P)∧Q (.bl true) S
 | _=>False
theorem zu5:Ln (ziC) 4:=fun ds S Q ex h=>by unfold ziC at h; split at h <;> first | rfl | exact h.elim
section
variable {P:Program}{w:World}{K:PySem.W.Frag}{mg:Str→Option Value}{base:Heap}
def zr5  (zlY:Df K mg "_law_grid" zkx zhG):Fk P w K mg base 1 "_law_grid" zhG zii:=
 zlY.mk' (zau (k:=0) zlY.F zwK (zxx) fun cdv A outer s H E hr=>⟨_,(zaj (zaS (zaO (zbe hr) (zam zbq (dv 0) zac) zac (zaE _)) (zah (zap (zam zba zac (zam zbq (zam zb1 (dv 0) zac) zac)))) zaT) (zaj (zaS (zaO (zbe hr) (zam zbq (dv 0) zac) zac (zaE _)) (zah (zap (zam zba zac (zam zbq (zam zb1 (dv 0) zac) zac)))) zaT) (zah (zap zac)))),fun ds S Q ex h=>by
  unfold zii at h
  split at h
  ·rename_i c
   refine ifD (fun e=>?_) (fun e=>?_)
   ·exact h _ (by omega) (by omega)
   ·refine ifD (fun e=>?_) (fun e=>?_)
    ·exact h _ (by omega) (by omega)
    ·exact h _ (by decide) (by decide)
  ·exact h.elim⟩)
def zxy  (zmE:Df K mg "_law_cell" zj6 zdr)(zaA:mg "len"=none):Fk P w K mg base 1 "_law_cell" zdr zdC:=
 zmE.mk' (zau (k:=0) zmE.F zvw (zrw) fun cdv A outer s H E hr=>⟨_,(zaj (zaS (zaO zeC (dv 1) (zaP zbi rfl zaA Boot.«len» (zaa (dv 0) zab)) (zaE _)) (zah (zap (zas (dv 0) (dv 1) (fun _ _=>rfl)))) zaT) (zah (zap zac))),fun ds S Q ex h=>by
  unfold zdC at h
  split at h
  ·rename_i n k
   obtain⟨ns,h1,h2,h3⟩:=h
   simp only[zh3,zcT,zqn,dRet,dRetN,dIf,zhx,zcz,dC,dOp,dUn,wI,wI0,wIf,zml,dNot,dAnd,dOr,zqb,dOrV,zp0,dIfE,zkr,dNil,zq5,dTup,dLst,wIx,zjq,zly,zpb,wAbs,zei,zgZ,wEq,wNe,wIsN,zqq,wNeg,zfd,List.map_cons,List.map_nil,List.length_cons,List.length_nil,List.cons_append,List.nil_append,Nat.reduceAdd,Nat.reduceSub,List.replicate,List.getElem?_cons_zero,List.getElem?_cons_succ,List.set_cons_zero,List.set_cons_succ,ite_true,ite_false,if_true,if_false,Nat.reduceLeDiff,eq_self,p40,p41,p20,zhR,powB,Int.reduceLT,Int.reduceLE,Int.reduceNeg,decide_true,Bool.and_self,Bool.and_true,Bool.true_and,L3.eq1,L3.eq2,L3.eqT,L3.eqF,L3.eqL]
   have hA:lAt S n=some (.frz (ns.map D.int)):=zaC h1 rfl
   simp only[hA,zai,List.length_map]
   refine zcV (fun c=>?_) (fun c=>?_)
   ·have c':k < (ns.length:Int):=of_decide_eq_true c
    have hk:k.toNat < ns.length:=(by omega)
    have e:atI (ns.map D.int) k=some (.int ns[k.toNat]):=by
     have z:=zds (xs:=ns.map D.int) (j:=k.toNat) (v:=.int ns[k.toNat]) (by simp[hk])
     rw[show ((k.toNat:Nat):Int)=k by omega] at z
     exact z
    simp only[e]
    rw[List.getD_eq_getElem?_getD,List.getElem?_eq_getElem hk] at h3
    exact h3
   ·have c':¬ k < (ns.length:Int):=fun z=>c (decide_eq_true z)
    rw[List.getD_eq_getElem?_getD,List.getElem?_eq_none (by omega)] at h3
    exact h3
  ·exact h.elim⟩)
def zu8  (ziU:Df K mg "_law_point" zlI zgu)(zbn:Fk P w K mg base 1 "_law_cell" zdr zdC)(zaH:mg "range"=none):Fk P w K mg base 2 "_law_point" zgu zgh:=
 ziU.mk' (zau (k:=1) ziU.F zfz (ztT) fun cdv A outer s H E hr=>⟨_,(zaj (zay (i:=4) zfz.nd rfl (Or.inl rfl) (zcf zab)) (zaj (zc1 (i:=5) PassesOwn.never rfl zfz.nd rfl (Or.inl rfl) rfl zaH (zaa (dv 1) zab) (zaj (zay (i:=6) zfz.nd rfl (Or.inl rfl) (zan zbn hr (zaa (dv 0) (zaa (zam zba zac (zam zaZ zac (dv 5))) zab)))) (zaj (zay (i:=7) zfz.nd rfl (Or.inl rfl) (zam zdE (zam zbq (zam zb1 (dv 6) zac) zac) zac)) (zaj (zaS (zaO (zbe hr) (zam zbq (dv 6) zac) zac (zaE _)) (zah (zay (i:=7) zfz.nd rfl (Or.inl rfl) (zam zdE (zam zbq (zam zb1 (dv 6) zac) zac) zac))) zaT) (zah (zcU (zcM (dv 4) (za1 (zaa (zam zba (zam zaZ (dv 7) (dv 3)) (zam zee (zam zb1 (dv 6) zac) (dv 3))) (zaa (zam zaZ (dv 2) (dv 3)) zab)))))))))) (zah (zap (dv 4))))),fun ds S Q ex h=>by
  unfold zgh at h
  split at h
  ·rename_i sc qi g parts
   obtain⟨cs,q,hsc,⟨rfl,q4⟩,hg,hp,h⟩:=h
   refine⟨⟨by omega,by omega⟩,fun k dl' S'=>k≤q∧Pre S S'∧(∃P:List (Int×Int),S'[S.length]?=some (.lst (P.map frD))∧P.length=k∧∀p∈P,p.2=g * parts∧p.1.natAbs≤1000000)∧∃u1 u2 u3:Option D,dl'=[some (.ref sc),some (.int (q:Nat)),some (.int g),some (.int parts),some (.ref S.length),u1,u2,u3],⟨Nat.zero_le _,Pre.refl.push,⟨[],zax _ _,rfl,fun p hp=>by simp at hp⟩,_,_,_,rfl⟩,?_⟩
   rintro k dl' S' ⟨hk,pr,⟨P,hP,lP,zP⟩,u1,u2,u3,rfl⟩
   rw[Int.toNat_natCast]
   refine zcV (fun c=>?_) (fun c=>?_)
   ·refine⟨IntMulOk.of_left (by decide),cs,pr _ _ hsc,show (0:Int)≤3 + 3 * (k:Int) by omega,?_⟩
    generalize cs.getD (3 + 3 * (k:Int)).toNat 0=x
    have xp:=zej (a:=x / 3) (b:=parts) (by omega)
    have fin:∀place:Int,place.natAbs≤100000→k + 1≤q∧Pre S (S'.set S.length (.lst (P.map frD++[frD (place * parts + x / 3 % parts,g * parts)])))∧∃P2:List (Int×Int),(S'.set S.length (.lst (P.map frD++[frD (place * parts + x / 3 % parts,g * parts)])))[S.length]?=some (.lst (P2.map frD))∧P2.length=k + 1∧∀p∈P2,p.2=g * parts∧p.1.natAbs≤1000000:=fun place hpl=>
     ⟨by omega,zhJ pr (Nat.le_refl _),P++[(place * parts + x / 3 % parts,g * parts)],by rw[List.map_append]; exact zcv hP,by rw[List.length_append,lP]; rfl,fun p hp=>by
      rcases List.mem_append.mp hp with w | w
      ·exact zP p w
      ·rw[List.mem_singleton.mp w]
       refine⟨rfl,?_⟩
       have a:=Int.natAbs_mul place parts
       have b:place.natAbs * parts.natAbs≤100000 * 8:=Nat.mul_le_mul hpl (by omega)
       show (place * parts + x / 3 % parts).natAbs≤1000000
       omega⟩
    have sz:∀place:Int,place.natAbs≤100000→IntMulOk place parts:=fun place hpl=>zaR (m:=20) (n:=10) (Sz.of 100000 hpl) (Sz.of 8 (by omega))
    have sg:IntMulOk g parts:=zaR (m:=21) (n:=10) (Sz.of 1000000 (by omega)) (Sz.of 8 (by omega))
    refine ifD (fun e=>?_) (fun e=>?_)
    ·have hpl:(x / 2 % 200001 - 100000).natAbs≤100000:=by omega
     refine zd5 (n:=S.length) (S1:=S') (xs:=P.map frD) (y:=frD ((x / 2 % 200001 - 100000) * parts + x / 3 % parts,g * parts)) (fun K hK=>by exact hK) hP (fun K hK=>⟨sz _ hpl,show (0:Int) < parts by omega,sg,hK⟩) (by rw[List.length_map]; omega) ?_
     obtain⟨f1,f2,f3⟩:=fin _ hpl
     exact⟨f1,f2,f3,_,_,_,rfl⟩
    ·have hpl:(x / 2 % 401 - 200).natAbs≤100000:=by omega
     refine zd5 (n:=S.length) (S1:=S') (xs:=P.map frD) (y:=frD ((x / 2 % 401 - 200) * parts + x / 3 % parts,g * parts)) (fun K hK=>by exact hK) hP (fun K hK=>⟨sz _ hpl,show (0:Int) < parts by omega,sg,hK⟩) (by rw[List.length_map]; omega) ?_
     obtain⟨f1,f2,f3⟩:=fin _ hpl
     exact⟨f1,f2,f3,_,_,_,rfl⟩
   ·have e:k=q:=by omega
    subst e
    exact h _ _ P pr (Nat.le_refl _) hP lP zP
  ·exact h.elim⟩)
def zxk  (zmb:Df K mg "_law_around" zlV zh2)(zbn:Fk P w K mg base 1 "_law_cell" zdr zdC)(zaH:mg "range"=none)(zaA:mg "len"=none)(zbI:mg "max"=none):Fk P w K mg base 2 "_law_around" zh2 zgJ:=
 zmb.mk' (zau (k:=1) zmb.F zdq (zuQ) fun cdv A outer s H E hr=>⟨_,(zaj (zay (i:=4) zdq.nd rfl (Or.inl rfl) (zcf zab)) (zaj (zay (i:=5) zdq.nd rfl (Or.inl rfl) (zaF (zcf (zaa zac (zaa (zam zba zac (dv 3)) zab))) (zam zbq (zan zbn hr (zaa (dv 0) (zaa zac zab))) zac) (fun _ _=>rfl))) (zaj (zc1 (i:=6) PassesOwn.never rfl zdq.nd rfl (Or.inl rfl) rfl zaH (zaa (zaP (zaK zbi) rfl zaA Boot.«len» (zaa (dv 1) zab)) zab) (zaj (zay (i:=7) zdq.nd rfl (Or.inl rfl) (zam zd1 (zas (zaF (dv 1) (dv 6) (fun _ _=>rfl)) zac (fun _ _=>rfl)) (dv 2))) (zaj (zay (i:=8) zdq.nd rfl (Or.inl rfl) (zan zbn hr (zaa (dv 0) (zaa (zam zba zac (zam zaZ zac (dv 6))) zab)))) (zaj (zay (i:=9) zdq.nd rfl (Or.inl rfl) (zan zbn hr (zaa (dv 0) (zaa (zam zba zac (zam zaZ zac (dv 6))) zab)))) (zaj (zay (i:=10) zdq.nd rfl (Or.inl rfl) (zam zdE (dv 7) (zam zee (zam zb1 (dv 8) zac) (dv 5)))) (zaj (zaS (zaO (zbe hr) (zam zbq (dv 8) zac) zac (zaE _)) (zah (zay (i:=10) zdq.nd rfl (Or.inl rfl) (zam zba (dv 7) zac))) zaT) (zah (zcU (zcM (dv 4) (za1 (zaa (dv 10) (zaa (zaP (zjM rfl) rfl zbI Boot.«max» (zaa (dv 10) (zaa (zam zba (zam zba (dv 7) zac) (zam zee (zam zb1 (dv 9) zac) (dv 5))) zab))) zab)))))))))))) (zah (zap (dv 4)))))),fun ds S Q ex h=>by
  unfold zgJ at h
  split at h
  ·rename_i sc p parts g
   obtain⟨cs,P,hsc,hp,l4,zP,hg,hpa,h⟩:=h
   refine⟨cs,zaz (zaz hsc),by decide,?_⟩
   obtain⟨room,er,r1,r2⟩:∃room:Int,atI [D.int 1000,.int (1 + g)] (cs.getD (15:Int).toNat 0 % 2)=some (.int room)∧1≤room∧room≤1000001:=by
    generalize cs.getD (15:Int).toNat 0=x
    have e:x % 2=0∨x % 2=1:=by omega
    rcases e with e | e <;> rw[e]
    ·exact⟨1000,rfl,by decide,by decide⟩
    ·exact⟨1 + g,rfl,by omega,by omega⟩
   refine zaD (n:=(S++[Ob.lst []]).length) (o:=.lst [D.int 1000,.int (1 + g)]) (zax _ _) er ?_
   have hp0:(S++[Ob.lst []]++[Ob.lst [D.int 1000,.int (1 + g)]])[p]?=some (.lst (P.map frD)):=zaz (zaz hp)
   refine zbp hp0 ?_
   rw[List.length_map]
   have ls:=zbh hp
   refine⟨⟨by omega,by omega⟩,fun k dl' S'=>k≤P.length∧Pre S S'∧(∃B:List (Int×Int),S'[S.length]?=some (.lst (B.map frD))∧B.length=k∧∀p∈B,p.1≤p.2∧p.1.natAbs≤3000000∧p.2.natAbs≤6000000)∧∃u1 u2 u3 u4 u5:Option D,dl'=[some (.ref sc),some (.ref p),some (.int parts),some (.int g),some (.ref S.length),some (.int room),u1,u2,u3,u4,u5],⟨Nat.zero_le _,Pre.refl.push.push,⟨[],zaz (zax _ _),rfl,fun p hp=>by simp at hp⟩,_,_,_,_,_,rfl⟩,?_⟩
   rintro k dl' S' ⟨hk,pr,⟨B,hB,lB,zB⟩,u1,u2,u3,u4,u5,rfl⟩
   rw[Int.toNat_natCast]
   refine zcV (fun c=>?_) (fun c=>?_)
   ·have kr:inR ((P.length:Nat):Int) (k:Int):=⟨by omega,by omega⟩
    have zk:=zP _ (zdN kr)
    refine zaD (o:=.lst (P.map frD)) (pr _ _ hp) (za4 kr) ?_
    refine⟨(Sz.of (n:=30) 8 (show parts.natAbs≤8 by omega)).fd (by omega),?_⟩
    have d1:=Int.natAbs_ediv_le_natAbs (gt P (k:Int)).1 parts
    obtain⟨place,hpl⟩:∃place:Int,(gt P (k:Int)).1 / parts=place:=⟨_,rfl⟩
    rw[hpl] at d1
    refine⟨IntMulOk.of_left (by decide),cs,pr _ _ hsc,show (0:Int)≤4 + 3 * (k:Int) by omega,?_⟩
    generalize cs.getD (4 + 3 * (k:Int)).toNat 0=x
    refine⟨IntMulOk.of_left (by decide),cs,pr _ _ hsc,show (0:Int)≤5 + 3 * (k:Int) by omega,?_⟩
    generalize cs.getD (5 + 3 * (k:Int)).toNat 0=y
    have rx:=zej (a:=x / 20) (b:=room) (by omega)
    have ry:=zej (a:=y / 20) (b:=room) (by omega)
    refine⟨show (0:Int) < room by omega,?_⟩
    have fin:∀lo hi:Int,lo≤hi→lo.natAbs≤3000000→hi.natAbs≤6000000→k + 1≤P.length∧Pre S (S'.set S.length (.lst (B.map frD++[frD (lo,hi)])))∧∃B2:List (Int×Int),(S'.set S.length (.lst (B.map frD++[frD (lo,hi)])))[S.length]?=some (.lst (B2.map frD))∧B2.length=k + 1∧∀p∈B2,p.1≤p.2∧p.1.natAbs≤3000000∧p.2.natAbs≤6000000:=fun lo hi h1 h2 h3=>
     ⟨by omega,zhJ pr (Nat.le_refl _),B++[(lo,hi)],by rw[List.map_append]; exact zcv hB,by rw[List.length_append,lB]; rfl,fun p hp=>by
      rcases List.mem_append.mp hp with w | w
      ·exact zB p w
      ·rw[List.mem_singleton.mp w]; exact⟨h1,h2,h3⟩⟩
    have tail:∀lo:Int,lo.natAbs≤3000000→∃hi:Int,(if place + 1 + y / 20 % room > lo then place + 1 + y / 20 % room else lo)=hi∧lo≤hi∧hi.natAbs≤6000000:=fun lo hl=>by
     split
     ·exact⟨_,rfl,by omega,by omega⟩
     ·exact⟨_,rfl,by omega,by omega⟩
    refine ifD (fun e=>?_) (fun e=>?_)
    ·obtain⟨hi,eh,h1,h2⟩:=tail (place + 1) (by omega)
     refine zd5 (n:=S.length) (S1:=S') (xs:=B.map frD) (y:=frD (place + 1,hi)) (fun K hK=>by exact hK) hB (fun K hK=>?_) (by rw[List.length_map]; omega) ?_
     ·refine⟨show (0:Int) < room by omega,?_⟩
      rw[← eh,← hpl] at hK
      exact hK
     ·obtain⟨f1,f2,f3⟩:=fin (place + 1) hi h1 (by omega) h2
      exact⟨f1,f2,f3,_,_,_,_,_,rfl⟩
    ·obtain⟨hi,eh,h1,h2⟩:=tail (place - x / 20 % room) (by omega)
     refine zd5 (n:=S.length) (S1:=S') (xs:=B.map frD) (y:=frD (place - x / 20 % room,hi)) (fun K hK=>by exact hK) hB (fun K hK=>?_) (by rw[List.length_map]; omega) ?_
     ·refine⟨show (0:Int) < room by omega,?_⟩
      rw[← eh,← hpl] at hK
      exact hK
     ·obtain⟨f1,f2,f3⟩:=fin (place - x / 20 % room) hi h1 (by omega) h2
      exact⟨f1,f2,f3,_,_,_,_,_,rfl⟩
   ·have e:k=P.length:=by omega
    exact h _ _ B pr (Nat.le_refl _) hB (by omega) zB
  ·exact h.elim⟩)
def zsq  (zjW:Df K mg "_law_lowest" zmF zff)(zdU:mg "abs"=none):Fk P w K mg base 1 "_law_lowest" zff zfT:=
 zjW.mk' (zau (k:=0) zjW.F zmP (zxi) fun cdv A outer s H E hr=>⟨_,(zaj (zay (i:=2) zmP.nd rfl (Or.inl rfl) (zaP zv1 rfl zdU Boot.«abs» (zaa (dv 0) zab))) (zaj (zay (i:=3) zmP.nd rfl (Or.inl rfl) (dv 1)) (zaj (zs2 PassesOwn.never (zaO (zl7 hr) (dv 3) zac (zaE _)) (zah (zrt (i:=2) (j:=3) rfl zmP.nd rfl rfl (by decide) rfl rfl (zaa (dv 3) (zaa (zam zee (dv 2) (dv 3)) zab))))) (zah (zap (za1 (zaa (zam zd1 (dv 0) (dv 2)) (zaa (zam zd1 (dv 1) (dv 2)) zab)))))))),fun ds S Q ex h=>by
  unfold zfT at h
  split at h
  ·rename_i T B
   obtain⟨⟨hB,sB⟩,h⟩:=h
   have f:=zw1 (T:=T) (B:=B) (d:=((Int.gcd T B:Nat):Int)) (by omega) (by rw[if_neg (by omega)])
   obtain⟨f1,f2,f3,f4,f5,f6⟩:=f
   have gp:(0:Int) < ((Int.gcd T B:Nat):Int):=by omega
   have gle:((Int.gcd T B:Nat):Int)≤B:=Int.le_of_dvd hB (Int.gcd_dvd_right T B)
   have sg:Sz 4000 ((Int.gcd T B:Nat):Int):=by
    unfold Sz at sB ⊢
    omega
   have eg:Int.gcd (zc5 T) B=Int.gcd T B:=by
    have z:=zsb T B
    rw[show zc5 B=B by unfold zc5; split <;> omega] at z
    exact z
   refine⟨fun m dl' S'=>S'=S∧∃(x y:Int),dl'=[some (.int T),some (.int B),some (.int x),some (.int y)]∧0≤x∧0≤y∧Int.gcd x y=Int.gcd T B∧m=y.toNat,⟨B.toNat,rfl,zc5 T,B,rfl,zv6 T,by omega,eg,rfl⟩,?_⟩
   rintro m dl' S' ⟨rfl,x,y,rfl,hx,hy,hg,rfl⟩
   refine ifN (fun c=>?_) (fun c=>?_)
   ·have c':0 < y:=by omega
    exact⟨c',⟨(x % y).toNat,by have:=zej (a:=x) c'; omega,rfl,y,x % y,rfl,hy,(zej (a:=x) c').1,(zrs x y).trans hg,rfl⟩⟩
   ·subst c
    have e:((Int.gcd T B:Nat):Int)=x:=by rw[← hg,Int.gcd_zero_right]; omega
    have e1:T / ((Int.gcd T B:Nat):Int)=T.fdiv ((Int.gcd T B:Nat):Int):=(Int.fdiv_eq_ediv_of_nonneg _ (by omega)).symm
    have e2:B / ((Int.gcd T B:Nat):Int)=B.fdiv ((Int.gcd T B:Nat):Int):=(Int.fdiv_eq_ediv_of_nonneg _ (by omega)).symm
    have q:=h _ _ f4 f5 f6 (zqg f1 f2) (by have:=zqg f1 f3; omega)
    rw[← e1,← e2] at q
    rw[e] at q sg gp
    exact⟨sg.fd gp,sg.fd gp,q⟩
  ·exact h.elim⟩)
def zst  (ziY:Df K mg "_law_at" zli zel):Fk P w K mg base 1 "_law_at" zel zeh:=
 ziY.mk' (zau (k:=0) ziY.F ztA (zuj) fun cdv A outer s H E hr=>⟨_,(zaj (zaS (zaO (zuR hr) (dv 1) (dv 0) rfl) (zah (zcU (zcM (dv 0) (dv 1)))) zaT) (zah (zap (zrT (k:=1) hr (by decide) (dv 0) (zaa (dv 1) zab))))),fun ds S Q ex h=>by
  unfold zeh at h
  split at h
  ·rename_i a d
   obtain⟨q,v,ns,ws,rfl,ha,l9,net,ok,h16,h⟩:=h
   have fin:∀(T:Sto) (j:Nat) (ns':List Nd) (ws':List Nat),Gr q a 1 S ns ws T ns' ws'→ns'[j]?=some v→Q (.int (j:Int)) T:=fun T j ns' ws' gr hj=>by
    refine h T j ns' ws' gr (List.getElem?_eq_some_iff.mp hj).1 hj ?_ (zts gr ok hj)
    rw[(gr.net.ok j v hj).2.1]
    exact ztO gr net ok
   obtain⟨o,e1,e2,e3⟩:=znq v ns
   refine zrE (o:=o) ha e2 ?_
   cases o with
   | some j=>
    refine zbc ?_
    refine zqO (n:=a) (v:=v) (ns:=ns) (fun K hK=>by exact hK) (fun K hK=>by exact hK) ha e1 ?_
    exact fin S j ns ws ((Gr.refl net ha).mono (by decide)) (e3 j rfl)
   | none=>
    refine zb2 ?_
    refine zd5 (n:=a) (S1:=S) (xs:=ns.map Nd.d) (y:=v.d) (fun K hK=>by exact hK) ha (fun K hK=>by exact hK) (by rw[List.length_map]; omega) ?_
    have hm:(S.set a (.lst (ns.map Nd.d++[v.d])))[a]?=some (.lst ((ns++[v]).map Nd.d)):=by
     rw[List.map_append]
     exact zcv ha
    obtain⟨o2,f1,f2,f3⟩:=znq v (ns++[v])
    cases o2 with
    | none=>
     obtain⟨k,hk⟩:∃k,(ns++[v])[k]?=some v:=⟨ns.length,by simp⟩
     exact absurd f2 (any_some hk)
    | some j=>
     refine zqO (n:=a) (v:=v) (ns:=ns++[v]) (fun K hK=>by exact hK) (fun K hK=>by exact hK) hm f1 ?_
     exact fin _ j (ns++[v]) (ws++[v.wt ws]) ⟨net.snoc ok h16,⟨[v],rfl,by simp⟩,⟨_,rfl⟩,hm,by simp,fun x o hx e=>zcA e (Ne.symm hx)⟩ (f3 j rfl)
  ·exact h.elim⟩)
def zrN  (zkz:Df K mg "_law_sum" zmJ zgC)(zcb:Fk P w K mg base 1 "_law_at" zel zeh):Fk P w K mg base 2 "_law_sum" zgC zhq:=
 zkz.mk' (zau (k:=1) zkz.F zmm (zro) fun cdv A outer s H E hr=>⟨_,(zaj (zay (i:=2) zmm.nd rfl (Or.inl rfl) (zaF (dv 1) zac (fun _ _=>rfl))) (zaj (zmj (i:=3) PassesOwn.never rfl zmm.nd rfl (Or.inl rfl) (zgb (dv 1) (zgl zac) zhB) (zah (zay (i:=2) zmm.nd rfl (Or.inl rfl) (zan zcb hr (zaa (dv 0) (zaa (za1 (zaa zbB (zaa (dv 2) (zaa (dv 3) zab)))) zab)))))) (zah (zap (dv 2))))),fun ds S Q ex h=>by
  unfold zhq at h
  split at h
  ·rename_i a p
   obtain⟨q,B,ns,ws,is,ha,hp,ap,net,⟨i1,i4⟩,b16,l8,his,h⟩:=h
   have h0:is[0]?=some is[0]:=List.getElem?_eq_getElem (by omega)
   generalize is[0]=j0 at h0
   have z0:=his j0 (List.mem_of_getElem? h0)
   refine zaD (o:=.lst (is.map wtD)) hp (d:=.int (j0:Int)) (zds (j:=0) (by show (is.map wtD)[0]?=_; rw[List.getElem?_map,h0]; rfl)) ?_
   refine zh9 (n:=p) (o:=.lst (is.map wtD)) (lo:=some 1) (hi:=none) (S3:=S) (fun K hK=>by exact hK) (fun K hK=>by exact hK) (fun K hK=>by exact hK) hp ?_
   have ec:zbS (is.map wtD) (some 1) none=(is.drop 1).map wtD:=by rw[zuX,List.map_drop]
   have ecut:(zai (Ob.lst (zbS (is.map wtD) (some 1) none))).length=is.length - 1:=by
    show (zbS (is.map wtD) (some 1) none).length=_
    rw[ec,List.length_map,List.length_drop]
   have la:=zbh ha
   refine zlt (n:=S.length) (o:=.lst (zbS (is.map wtD) (some 1) none)) (fun k dl' S'=>∃(j:Nat) (ns':List Nd) (ws':List Nat),Gr q a k S ns ws S' ns' ws'∧j < ns'.length∧ws'.getD j 0≤(k + 1) * B∧(∀P,(∀i∈is,(gt (zaq P ns) (i:Int)).1=0)→(gt (zaq P ns') (j:Int)).1=0)∧S'[S.length]?=some (.lst (zbS (is.map wtD) (some 1) none))∧∃u:Option D,dl'=[some (.ref a),some (.ref p),some (.int (j:Int)),u]) ⟨j0,ns,ws,Gr.push net ha _,z0.1,by have:=z0.2; omega,fun P hz=>hz j0 (List.mem_of_getElem? h0),zax _ _,_,rfl⟩ (fun k dl' S' ⟨_,_,_,_,_,_,_,e,_⟩=>e) ?_ ?_
   ·rintro k x dl' S' nx ct ex' ⟨j,ns',ws',gr,hj,wj,dj,e4,u,rfl⟩ hn
    have hx:(zbS (is.map wtD) (some 1) none)[k]?=some x:=ex'
    have hk:=(List.getElem?_eq_some_iff.mp hx).1
    rw[ec] at hx
    rw[ec,List.length_map,List.length_drop] at hk
    rw[List.getElem?_map] at hx
    obtain⟨i,hi,rfl⟩:=Option.map_eq_some_iff.mp hx
    have him':=List.mem_of_mem_drop (List.mem_of_getElem? hi)
    have him:=his i him'
    have ln:=gr.ln
    have hi':i < ns'.length:=by omega
    have wi:=gr.wt net him.1
    have hB:(k + 1 + 1) * B≤16:=Nat.le_trans (Nat.mul_le_mul_right B (show k + 1 + 1≤is.length by omega)) b16
    have eB:(k + 1 + 1) * B=(k + 1) * B + B:=Nat.succ_mul (k + 1) B
    have wv:Nd.wt ws' (.plus (j:Int) (i:Int))≤(k + 1 + 1) * B:=by
     show ws'.getD ((j:Nat):Int).toNat 0 + ws'.getD ((i:Nat):Int).toNat 0≤_
     rw[Int.toNat_natCast,Int.toNat_natCast,wi]
     have:=him.2
     omega
    refine⟨q,.plus j i,ns',ws',rfl,gr.nd,by omega,gr.net,⟨⟨by omega,by omega⟩,⟨by omega,by omega⟩⟩,by omega,fun T j2 ns2 ws2 gr2 lj2 hj2 wj2 dj2=>?_⟩
    refine hn _ _ ⟨j2,ns2,ws2,gr.trans gr2,lj2,by rw[wj2]; exact wv,fun P hz=>?_,gr2.kp _ _ (by omega) e4,_,rfl⟩
    rw[dj2 P]
    show (gt (zaq P ns') (j:Int)).1 * (gt (zaq P ns') (i:Int)).2 + (gt (zaq P ns') (i:Int)).1 * (gt (zaq P ns') (j:Int)).2=0
    rw[dj P hz,gr.due P him.1,hz i him']
    omega
   ·rintro dl' S' ⟨j,ns',ws',gr,hj,wj,dj,e4,u,rfl⟩
    rw[ecut] at gr wj
    exact h _ j ns' ws' (gr.mono (by omega)) hj (by rw[show is.length - 1 + 1=is.length by omega] at wj; exact wj) dj
  ·exact h.elim⟩)
def zx9  (zmN:Df K mg "_law_rows" zlm zha)(znL:Fk P w K mg base 2 "_law_sum" zgC zhq)(zcb:Fk P w K mg base 1 "_law_at" zel zeh)(zeO:Fk P w K mg base 1 "_law_lowest" zff zfT)(zbn:Fk P w K mg base 1 "_law_cell" zdr zdC)(zaH:mg "range"=none)(zaA:mg "len"=none)(zcY:mg "int"=none):Fk P w K mg base 3 "_law_rows" zha zgM:=
 zmN.mk' (zau (k:=2) zmN.F zcx (zrY) fun cdv A outer s H E hr=>⟨_,(zaj (zay (i:=3) zcx.nd rfl (Or.inl rfl) (zcf zab)) (zaj (zc1 (i:=4) PassesOwn.never rfl zcx.nd rfl (Or.inl rfl) rfl zaH (zaa (zaP (zaK zbi) rfl zaA Boot.«len» (zaa (dv 2) zab)) zab) (zaj (zay (i:=5) zcx.nd rfl (Or.inl rfl) (zcf zab)) (zaj (zc1 (i:=6) PassesOwn.never rfl zcx.nd rfl (Or.inl rfl) rfl zaH (zaa (zaP (zaK zbi) rfl zaA Boot.«len» (zaa (dv 2) zab)) zab) (zaj (zay (i:=7) zcx.nd rfl (Or.inl rfl) (zam zba (zam zdE (zam zbq (zan zbn hr (zaa (dv 0) (zaa (zam zba (zam zba zac (zam zaZ zac (dv 4))) (dv 6)) zab))) zac) zac) (zam zaZ zac (zcy zrc rfl zcY Boot.«int» (zaa (zc8 (zbe hr) (dv 4) (dv 6) (zaE _)) zab))))) (zaj (zay (i:=8) zcx.nd rfl (Or.inl rfl) (zan zcb hr (zaa (dv 1) (zaa (za1 (zaa zbB (zaa (dv 7) (zaa zac zab)))) zab)))) (zah (zcU (zcM (dv 5) (zan zcb hr (zaa (dv 1) (zaa (za1 (zaa zbB (zaa (dv 8) (zaa (zaF (dv 2) (dv 6) (fun _ _=>rfl)) zab)))) zab))))))))) (zaj (zay (i:=9) zcx.nd rfl (Or.inl rfl) (zan zbn hr (zaa (dv 0) (zaa (zam zba zac (dv 4)) zab)))) (zaj (zay (i:=10) zcx.nd rfl (Or.inl rfl) (zan zeO hr (zaa (zam zdE (zam zbq (dv 9) zac) zac) (zaa (zam zba zac (zam zbq (zam zb1 (dv 9) zac) zac)) zab)))) (zaj (zay (i:=8) zcx.nd rfl (Or.inl rfl) (zan zcb hr (zaa (dv 1) (zaa (za1 (zaa zbB (zaa (zas (dv 10) zac (fun _ _=>rfl)) (zaa (zas (dv 10) zac (fun _ _=>rfl)) zab)))) zab)))) (zaj (zay (i:=11) zcx.nd rfl (Or.inl rfl) (zaF (dv 2) (zam zee (zam zb1 (dv 9) zac) (zaP (zaK zbi) rfl zaA Boot.«len» (zaa (dv 2) zab))) (fun _ _=>rfl))) (zaj (zay (i:=12) zcx.nd rfl (Or.inl rfl) (zan zcb hr (zaa (dv 1) (zaa (za1 (zaa zbB (zaa (dv 11) (zaa (zaF (dv 2) (zam zee (zam zb1 (dv 9) zac) (zaP (zaK zbi) rfl zaA Boot.«len» (zaa (dv 2) zab))) (fun _ _=>rfl)) zab)))) zab)))) (zaj (zcU (zcM (dv 5) (zan zcb hr (zaa (dv 1) (zaa (za1 (zaa zbB (zaa (dv 8) (zaa (dv 12) zab)))) zab))))) (zah (zcU (zcM (dv 3) (za1 (zaa zbB (zaa (zan znL hr (zaa (dv 1) (zaa (dv 5) zab))) zab))))))))))))))) (zah (zap (dv 3))))),fun ds S Q ex h=>by
  unfold zgM at h
  split at h
  ·rename_i sc a f
   obtain⟨cs,q,P,ns,ws,fs,hsc,ha,hf,af,net,⟨f1,f2⟩,l3,zf,h⟩:=h
   have la:=zbh ha
   have asc:sc≠a:=fun e=>by rw[e,ha] at hsc; cases hsc
   refine zbp (zaz hf) ?_
   rw[List.length_map]
   refine⟨⟨by omega,by omega⟩,fun k dl' S'=>k≤fs.length∧(∃(rs:List Nat) (ns':List Nd) (ws':List Nat),Gr q a (16 * k) S ns ws S' ns' ws'∧S'[S.length]?=some (.lst (rs.map fun i=>rwD (true,i)))∧rs.length=k∧(∀i∈rs,Zr P ns' ws' 16 i))∧∃u4 u5 u6 u7 u8 u9 u10 u11 u12:Option D,dl'=[some (.ref sc),some (.ref a),some (.ref f),some (.ref S.length),u4,u5,u6,u7,u8,u9,u10,u11,u12],⟨Nat.zero_le _,⟨[],ns,ws,Gr.push net ha _,zax _ _,rfl,fun i hi=>by simp at hi⟩,_,_,_,_,_,_,_,_,_,rfl⟩,?_⟩
   rintro k dl' S' ⟨hk,⟨rs,ns',ws',gr,hR,lr,zr⟩,u4,u5,u6,u7,u8,u9,u10,u11,u12,rfl⟩
   rw[Int.toNat_natCast]
   refine zcV (fun c=>?_) (fun c=>?_)
   ·have lt:=zbh hR
    have ln:=gr.ln
    have hf':=gr.kp _ _ (Ne.symm af) hf
    have hsc':=gr.kp _ _ asc hsc
    have zf':∀f∈fs,Zr P ns' ws' 2 f:=fun f hf=>(zf f hf).up gr net
    try dsimp only
    refine zpZ (fun dl2 S2=>∃(ps:List Nat) (ns2:List Nd) (ws2:List Nat),Gr q a (2 * fs.length) S' ns' ws' S2 ns2 ws2∧S2[S'.length]?=some (.lst (ps.map wtD))∧ps.length=fs.length∧(∀i∈ps,Zr P ns2 ws2 5 i)∧∃u6 u7 u8 u9 u10 u11 u12:Option D,dl2=[some (.ref sc),some (.ref a),some (.ref f),some (.ref S.length),some (.int (k:Nat)),some (.ref S'.length),u6,u7,u8,u9,u10,u11,u12]) (fun nx hn=>?_) ?_
    ·refine zbp (zaz hf') ?_
     rw[List.length_map]
     refine⟨⟨by omega,by omega⟩,fun l dl2 S2=>l≤fs.length∧(∃(ps:List Nat) (ns2:List Nd) (ws2:List Nat),Gr q a (2 * l) S' ns' ws' S2 ns2 ws2∧S2[S'.length]?=some (.lst (ps.map wtD))∧ps.length=l∧(∀i∈ps,Zr P ns2 ws2 5 i))∧∃u6 u7 u8 u9 u10 u11 u12:Option D,dl2=[some (.ref sc),some (.ref a),some (.ref f),some (.ref S.length),some (.int (k:Nat)),some (.ref S'.length),u6,u7,u8,u9,u10,u11,u12],⟨Nat.zero_le _,⟨[],ns',ws',Gr.push gr.net gr.nd _,zax _ _,rfl,fun i hi=>by simp at hi⟩,_,_,_,_,_,_,_,rfl⟩,?_⟩
     rintro l dl2 S2 ⟨hl,⟨ps,ns2,ws2,gr2,hP,lp,zp⟩,v6,v7,v8,v9,v10,v11,v12,rfl⟩
     rw[Int.toNat_natCast]
     refine zcV (fun c2=>?_) (fun c2=>?_)
     ·have ln2:=gr2.ln
      have ltp:=zbh hP
      refine⟨IntMulOk.of_left (by decide),cs,gr2.kp _ _ asc hsc',show (0:Int)≤9 + 2 * (k:Int) + (l:Int) by omega,?_⟩
      generalize cs.getD (9 + 2 * (k:Int) + (l:Int)).toNat 0=x
      refine⟨IntMulOk.of_left (by decide),?_⟩
      obtain⟨e,he⟩:∃e:Int,(if decide ((k:Int)=(l:Int))=true then (1:Int) else 0)=e:=⟨_,rfl⟩
      have e01:0≤e∧e≤1:=by rw[← he]; split <;> omega
      try rw[he]
      have xr:0≤x % 7∧x % 7 < 7:=by omega
      refine⟨q,.number (x % 7 - 3 + 5 * e) 1,ns2,ws2,rfl,gr2.nd,by omega,gr2.net,⟨⟨by decide,by decide⟩,Int.gcd_one_right _,by omega⟩,show 1≤16 by decide,fun T j ns3 ws3 gr3 lj hj wj dj=>?_⟩
      have h0:fs[l]?=some fs[l]:=List.getElem?_eq_getElem (by omega)
      generalize fs[l]=fl at h0
      have z0:=((zf' fl (List.mem_of_getElem? h0)).up gr2 gr.net).up gr3 gr2.net
      refine zf5 (n:=S'.length) (xs:=ps.map wtD) (fun K hK=>by exact hK) (gr3.kp _ _ (by omega) hP) (fun K hK=>?_) (by rw[List.length_map]; omega)
      refine zaD (o:=.lst (fs.map wtD)) (gr3.kp _ _ (Ne.symm af) (gr2.kp _ _ (Ne.symm af) hf')) (d:=.int (fl:Int)) (zds (j:=l) (by show (fs.map wtD)[l]?=_; rw[List.getElem?_map,h0]; rfl)) ?_
      have wj':ws3.getD j 0=1:=wj
      have ln3:=gr3.ln
      have zl:=z0.lt
      have zw:=z0.wt
      have wv:Nd.wt ws3 (.times (j:Int) (fl:Int))≤3:=by
       show ws3.getD ((j:Nat):Int).toNat 0 + ws3.getD ((fl:Nat):Int).toNat 0≤3
       rw[Int.toNat_natCast,Int.toNat_natCast,wj']
       omega
      refine⟨q,.times j fl,ns3,ws3,rfl,gr3.nd,by omega,gr3.net,⟨⟨by omega,by omega⟩,⟨by omega,by omega⟩⟩,by omega,fun T2 j2 ns4 ws4 gr4 lj2 hj2 wj2 dj2=>?_⟩
      have hP3:=gr4.kp _ _ (show S'.length≠a by omega) (gr3.kp _ _ (by omega) hP)
      refine hK _ _ hP3 ⟨by omega,⟨ps++[j2],ns4,ws4,(((gr2.trans gr3).trans gr4).put (by omega) (Nat.le_refl _)).mono (by omega),by rw[List.map_append]; exact zcv hP3,by rw[List.length_append,lp]; rfl,fun i hi=>?_⟩,_,_,_,_,_,_,_,rfl⟩
      rcases List.mem_append.mp hi with y | y
      ·exact((zp i y).up gr3 gr2.net).up gr4 gr3.net
      ·rw[List.mem_singleton.mp y]
       refine⟨lj2,by rw[wj2]; omega,?_⟩
       rw[dj2 P]
       show (gt (zaq P ns3) (j:Int)).1 * (gt (zaq P ns3) (fl:Int)).1=0
       rw[z0.due,Int.mul_zero]
     ·have e:l=fs.length:=by omega
      subst e
      exact hn _ _ ⟨ps,ns2,ws2,gr2,hP,lp,zp,_,_,_,_,_,_,_,rfl⟩
    ·rintro dl2 S2 ⟨ps,ns2,ws2,gr2,hP,lp,zp,v6,v7,v8,v9,v10,v11,v12,rfl⟩
     have ln2:=gr2.ln
     have ltp:=zbh hP
     have zf2:∀f∈fs,Zr P ns2 ws2 2 f:=fun f hf=>(zf' f hf).up gr2 gr.net
     have hf2:=gr2.kp _ _ (Ne.symm af) hf'
     refine⟨cs,gr2.kp _ _ asc hsc',show (0:Int)≤13 + (k:Int) by omega,?_⟩
     generalize cs.getD (13 + (k:Int)).toNat 0=x
     refine⟨⟨show 0 < 1 + x / 7 % 50 by omega,Sz.of (n:=4000) 100 (by show (1 + x / 7 % 50).natAbs≤_; omega)⟩,fun t b b1 tg te tt tb=>?_⟩
     refine⟨q,.number t b,ns2,ws2,rfl,gr2.nd,by omega,gr2.net,⟨⟨b1,by omega⟩,tg,by omega⟩,show 1≤16 by decide,fun T3 j ns3 ws3 gr3 lj hj wj dj=>?_⟩
     have ln3:=gr3.ln
     have wj':ws3.getD j 0=1:=wj
     have fp:(0:Int) < (fs.length:Nat):=by omega
     have pick:∀y:Int,∃fl,(fs.map wtD)[(y % ((fs.length:Nat):Int)).toNat]?=some (.int ((fl:Nat):Int))∧fl∈fs:=fun y=>by
      have r:=zej (a:=y) fp
      have hl:(y % ((fs.length:Nat):Int)).toNat < fs.length:=by omega
      refine⟨fs[(y % ((fs.length:Nat):Int)).toNat],?_,List.getElem_mem hl⟩
      rw[List.getElem?_map,List.getElem?_eq_getElem hl]
      rfl
     have atP:∀y:Int,∃fl,atI (fs.map wtD) (y % ((fs.length:Nat):Int))=some (.int ((fl:Nat):Int))∧fl∈fs:=fun y=>by
      obtain⟨fl,e,m⟩:=pick y
      have r:=zej (a:=y) fp
      have z:=zds (xs:=fs.map wtD) (j:=(y % ((fs.length:Nat):Int)).toNat) e
      rw[show (((y % ((fs.length:Nat):Int)).toNat:Nat):Int)=y % ((fs.length:Nat):Int) by omega] at z
      exact⟨fl,z,m⟩
     obtain⟨fa,ea,ma⟩:=atP (x / 350)
     obtain⟨fb,eb,mb⟩:=atP (x / 700)
     have hf3:=gr3.kp _ _ (Ne.symm af) hf2
     have za:=(zf2 fa ma).up gr3 gr2.net
     have zb:=(zf2 fb mb).up gr3 gr2.net
     refine zbp hf3 ?_
     rw[List.length_map]
     refine⟨fp,?_⟩
     refine zaD (o:=.lst (fs.map wtD)) hf3 ea ?_
     refine zbp hf3 ?_
     rw[List.length_map]
     refine⟨fp,?_⟩
     refine zaD (o:=.lst (fs.map wtD)) hf3 eb ?_
     have wv:Nd.wt ws3 (.times (fa:Int) (fb:Int))≤4:=by
      show ws3.getD ((fa:Nat):Int).toNat 0 + ws3.getD ((fb:Nat):Int).toNat 0≤4
      rw[Int.toNat_natCast,Int.toNat_natCast]
      have:=za.wt
      have:=zb.wt
      omega
     have la':=za.lt
     have lb':=zb.lt
     refine⟨q,.times fa fb,ns3,ws3,rfl,gr3.nd,by omega,gr3.net,⟨⟨by omega,by omega⟩,⟨by omega,by omega⟩⟩,by omega,fun T4 j4 ns4 ws4 gr4 lj4 hj4 wj4 dj4=>?_⟩
     have ln4:=gr4.ln
     have wj5:ws4.getD j 0=1:=by rw[gr4.wt gr3.net lj]; exact wj'
     have hP4:=gr4.kp _ _ (show S'.length≠a by omega) (gr3.kp _ _ (show S'.length≠a by omega) hP)
     refine zf5 (n:=S'.length) (xs:=ps.map wtD) (fun K hK=>by exact hK) hP4 (fun K hK=>?_) (by rw[List.length_map]; omega)
     have wv5:Nd.wt ws4 (.times (j:Int) (j4:Int))≤5:=by
      show ws4.getD ((j:Nat):Int).toNat 0 + ws4.getD ((j4:Nat):Int).toNat 0≤5
      rw[Int.toNat_natCast,Int.toNat_natCast,wj5,wj4]
      omega
     refine⟨q,.times j j4,ns4,ws4,rfl,gr4.nd,by omega,gr4.net,⟨⟨by omega,by omega⟩,⟨by omega,by omega⟩⟩,by omega,fun T5 j5 ns5 ws5 gr5 lj5 hj5 wj6 dj5=>?_⟩
     have hP5:=gr5.kp _ _ (show S'.length≠a by omega) hP4
     have gr6:=((gr3.trans gr4).trans gr5)
     have lnx:=gr6.ln
     have zps:∀i∈ps++[j5],Zr P ns5 ws5 5 i:=fun i hi=>by
      rcases List.mem_append.mp hi with y | y
      ·exact(zp i y).up gr6 gr2.net
      ·rw[List.mem_singleton.mp y]
       refine⟨lj5,by rw[wj6]; exact wv5,?_⟩
       rw[dj5 P]
       show (gt (zaq P ns4) (j:Int)).1 * (gt (zaq P ns4) (j4:Int)).1=0
       rw[dj4 P]
       show (gt (zaq P ns4) (j:Int)).1 * ((gt (zaq P ns3) (fa:Int)).1 * (gt (zaq P ns3) (fb:Int)).1)=0
       rw[za.due,Int.zero_mul,Int.mul_zero]
     refine hK _ _ hP5 ?_
     have hR5:(T5.set S'.length (.lst ((ps++[j5]).map wtD)))[S.length]?=some (.lst (rs.map fun i=>rwD (true,i))):=zcA (gr6.kp _ _ (by omega) (gr2.kp _ _ (by omega) hR)) (by omega)
     have hP6:(T5.set S'.length (.lst (ps.map wtD++[.int (j5:Int)])))[S'.length]?=some (.lst ((ps++[j5]).map wtD)):=by rw[List.map_append]; exact zcv hP5
     have hN6:(T5.set S'.length (.lst (ps.map wtD++[.int (j5:Int)])))[a]?=some (.lst (ns5.map Nd.d)):=zcA gr5.nd (by omega)
     have gr7:=((gr2.trans gr6).put (o:=.lst (ps.map wtD++[.int (j5:Int)])) (show S'.length≠a by omega) (Nat.le_refl _))
     rw[List.map_append] at hR5
     refine zf5 (n:=S.length) (xs:=rs.map fun i=>rwD (true,i)) (fun K hK=>by exact hK) hR5 (fun K hK=>?_) (by rw[List.length_map]; omega)
     have lps:(ps++[j5]).length=fs.length + 1:=by rw[List.length_append,lp]; rfl
     refine⟨q,5,ns5,ws5,ps++[j5],hN6,hP6,by omega,gr5.net,⟨by omega,by omega⟩,by omega,by omega,fun i hi=>⟨(zps i hi).lt,(zps i hi).wt⟩,fun T7 j7 ns7 ws7 gr8 lj7 wj7 dj7=>?_⟩
     have hR7:=gr8.kp _ _ (show S.length≠a by omega) hR5
     have grA:=((gr.trans gr7).trans gr8)
     refine hK _ _ hR7 ⟨by omega,⟨rs++[j7],ns7,ws7,(grA.put (by omega) (Nat.le_refl _)).mono (by omega),by rw[List.map_append]; exact zcv hR7,by rw[List.length_append,lr]; rfl,fun i hi=>?_⟩,_,_,_,_,_,_,_,_,_,rfl⟩
     rcases List.mem_append.mp hi with y | y
     ·exact((zr i y).up gr7 gr.net).up gr8 gr7.net
     ·rw[List.mem_singleton.mp y]
      exact⟨lj7,by omega,dj7 P fun i hi=>(zps i hi).due⟩
   ·have e:k=fs.length:=by omega
    exact h _ _ rs ns' ws' (gr.mono (by omega)) hR (by omega) zr (Nat.le_refl _)
  ·exact h.elim⟩)
def zsf  (zk3:Df K mg "equation_places" zg4 zgz):Fk P w K mg base 1 "equation_places" zgz zg8:=
 zk3.mk' (zau (k:=0) zk3.F zrH (zwu) fun cdv A outer s H E hr=>⟨_,(zah (zap (zdd (x:="row") (N:=[]) (caps:=[]) (ar:=zao zg4) rfl rfl csc rfl (by decide) (dv 0) (fun _ _ _ _ _ _=>zqZ (zaO (zbe hr) (zas (dv 0) zac (fun _ _=>rfl)) zbB (zaE _))) (fun _ _ _ _ _ _=>(zas (dv 0) zac (fun _ _=>rfl)))))),fun ds S Q ex h=>by
  unfold zg8 at h
  split at h
  ·rename_i r
   obtain⟨rows,hr,l9,h⟩:=h
   refine zqe (n:=r) (S1:=S) (o:=.lst (rows.map rwD)) (fun d=>match d with | .tup [.str w,.int at']=>if w="zero" then some (.int at') else none | _=>none) (fun K hK=>by exact hK) hr (by show (rows.map rwD).length≤1000; rw[List.length_map]; omega) (fun x hx S2 K pr hK=>?_) (fun x hx y hy S2 K pr hK=>?_) ?_
   ·have hx':x∈rows.map rwD:=hx
    obtain⟨⟨b,n⟩,_,rfl⟩:=List.mem_map.mp hx'
    cases b
    ·exact hK
    ·exact hK
   ·have hx':x∈rows.map rwD:=hx
    obtain⟨⟨b,n⟩,_,rfl⟩:=List.mem_map.mp hx'
    cases b
    ·exact absurd hy (by
      simp[rwD]
      intro z
      exact absurd z (by decide))
    ·cases hy
     exact hK
   ·have e:(zai (.lst (rows.map rwD))).filterMap (fun d=>match d with | .tup [.str w,.int at']=>if w="zero" then some (.int at') else none | _=>none)=(eqs rows).map wtD:=by
     show (rows.map rwD).filterMap _=_
     unfold eqs
     rw[List.filterMap_map,List.map_filterMap]
     congr 1
     funext ⟨b,n⟩
     cases b <;> rfl
    rw[e]
    exact h
  ·exact h.elim⟩)
def zsy  (zlE:Df K mg "picked" zhu zeQ):Fk P w K mg base 1 "picked" zeQ zfN:=
 zlE.mk' (zau (k:=0) zlE.F zs4 (zsG) fun cdv A outer s H E hr=>⟨_,(zah (zap (zdd (x:="place") (N:=["each"]) (caps:=[0]) (ar:=zao zhu) rfl rfl csc rfl (by decide) (dv 1) (fun _ _ _ _ _ _=>zb9) (fun _ _ _ _ _ _=>(zaF (dv 1) (dv 0) (fun _ _=>rfl)))))),fun ds S Q ex h=>by
  unfold zfN at h
  split at h
  ·rename_i e p
   obtain⟨xs,is,he,hp,l9,hi,h⟩:=h
   refine zdI (n:=p) (S1:=S) (o:=.lst (is.map wtD)) (fun d=>match d with | .int i=>xs.getD i.toNat .non | _=>.non) (fun K hK=>by exact hK) hp (by show (is.map wtD).length≤1000; rw[List.length_map]; omega) (fun x hx S2 K pr hK=>?_) ?_
   ·have hx':x∈is.map wtD:=hx
    obtain⟨i,him,rfl⟩:=List.mem_map.mp hx'
    have hl:=hi i him
    refine zaD (o:=.lst xs) (pr _ _ he) (zds (j:=i) (v:=xs.getD i .non) (by show xs[i]?=_; rw[List.getElem?_eq_getElem hl]; simp[hl])) ?_
    exact hK
   ·have e2:(zai (.lst (is.map wtD))).map (fun d=>match d with | .int i=>xs.getD i.toNat .non | _=>.non)=is.map fun i=>xs.getD i .non:=by
     show (is.map wtD).map _=_
     rw[List.map_map]
     rfl
    rw[e2]
    exact h
  ·exact h.elim⟩)
def zv2  (zjB:Df K mg "less" zj7 zhC):Fk P w K mg base 1 "less" zhC zgs:=
 zjB.mk' (zau (k:=0) zjB.F zrP (ztS) fun cdv A outer s H E hr=>⟨_,(zah (zap (zc8 zeC (zam zaZ (zas (dv 0) zac (fun _ _=>rfl)) (zas (dv 1) zac (fun _ _=>rfl))) (zam zaZ (zas (dv 1) zac (fun _ _=>rfl)) (zas (dv 0) zac (fun _ _=>rfl))) (zaE _)))),fun ds S Q ex h=>by
  unfold zgs at h
  split at h
  ·obtain⟨⟨h1,h2⟩,h⟩:=h
   exact⟨h1,h2,h⟩
  ·exact h.elim⟩)
def ztM  (ziV:Df K mg "rounded_up" zkJ zec):Fk P w K mg base 1 "rounded_up" zec zd2:=
 ziV.mk' (zau (k:=0) ziV.F zu2 (zsB) fun cdv A outer s H E hr=>⟨_,(zah (zap (zoH znR (zam zd1 (zoH znR (dv 0)) (dv 1))))),fun ds S Q ex h=>by
  unfold zd2 at h
  split at h
  ·exact h
  ·exact h.elim⟩)
def zv3  (zmn:Df K mg "span_of" ziI zgQ)(zdo:Fk P w K mg base 1 "rounded_up" zec zd2)(zoE:Fk P w K mg base 1 "less" zhC zgs):Fk P w K mg base 2 "span_of" zgQ zhT:=
 zmn.mk' (zau (k:=1) zmn.F zwd (zsC) fun cdv A outer s H E hr=>⟨_,(zaj (zaS (zcF (zan zoE hr (zaa (dv 1) (zaa (dv 0) zab)))) (zah zrp) zaT) (zah (zap (za1 (zaa (zam zd1 (zam zaZ (zas (dv 0) zac (fun _ _=>rfl)) (dv 2)) (zas (dv 0) zac (fun _ _=>rfl))) (zaa (zan zdo hr (zaa (zam zaZ (zas (dv 1) zac (fun _ _=>rfl)) (dv 2)) (zaa (zas (dv 1) zac (fun _ _=>rfl)) zab))) zab)))))),fun ds S Q ex h=>by
  unfold zhT at h
  split at h
  ·obtain⟨⟨⟨m1,m2⟩,nl,m3,m4,f1,f2⟩,h⟩:=h
   refine⟨⟨m1,m2⟩,ifF (decide_eq_false nl) ?_⟩
   exact⟨m3,f1,m4,f2,h⟩
  ·exact h.elim⟩)
def zvJ  (zak:zbH K mg)(zal:zbP K mg)(zae:zbC K mg)(zad:zbD K mg)(zaf:zbA K mg)(zag:zbL K mg)(zi4:Dm K zak.C "forth" "Number.forth" zmd zhH)(zop:Fk P w K mg base 2 "span_of" zgQ zhT):Fm P w K mg base 3 zak.C "forth" zhH (zeI zak.C zal.C zae.C zad.C zaf.C zag.C):=
 zi4.mk' (zau (k:=2) zi4.F zp5 (zr9 zak.C zal.C zae.C zad.C zaf.C zag.C) fun cdv A outer s H E hr=>⟨_,(zaj (zay (i:=4) zp5.nd rfl (Or.inl rfl) (za1 (zaa (za9 zak.cl zak.n_top (dv 0)) (zaa (za9 zak.cl zak.n_bottom (dv 0)) zab)))) (zah (zap (zan zop hr (zaa (dv 4) (zaa (dv 4) (zaa (dv 3) zab))))))),fun ds S Q ex h=>by
  unfold zeI at h
  split at h
  ·rename_i n w p g
   obtain⟨x,y,vs,bs,hn,hw,hp,ok,s1,hg,h⟩:=h
   have sg:Sz 21 g:=Sz.of 1000000 (by omega)
   have sx:Sz 31 x:=Sz.of (10 ^ 9) ok.2.2
   have sy:Sz 31 y:=Sz.of (10 ^ 9) (by have:=ok.1; omega)
   refine za7 (n:=n) (fun K hK=>by exact hK) hn rfl ?_
   refine za7 (n:=n) (fun K hK=>by exact hK) hn rfl ?_
   exact⟨⟨⟨zaR sx sy,zaR sx sy⟩,by omega,zaR sx sg,zaR sx sg,sy.fd (by have:=ok.1; omega),sy.fd (by have:=ok.1; omega)⟩,h⟩
  ·exact h.elim⟩)
def zvM  (zal:zbP K mg)(zak:zbH K mg)(zae:zbC K mg)(zad:zbD K mg)(zaf:zbA K mg)(zag:zbL K mg)(zme:Dm K zal.C "forth" "Unknown.forth" zlG zgq):Fm P w K mg base 1 zal.C "forth" zgq (ze4 zak.C zal.C zae.C zad.C zaf.C zag.C):=
 zme.mk' (zau (k:=0) zme.F zxH (zx1 zak.C zal.C zae.C zad.C zaf.C zag.C) fun cdv A outer s H E hr=>⟨_,(zah (zap (zaF (dv 2) (za9 zal.cl zal.n_place (dv 0)) (fun _ _=>rfl)))),fun ds S Q ex h=>by
  unfold ze4 at h
  split at h
  ·rename_i n w p g
   obtain⟨k,vs,bs,hn,hw,hp,ok,s1,hg,h⟩:=h
   refine za7 (n:=n) (fun K hK=>by exact hK) hn rfl ?_
   exact zaD (o:=.lst (bs.map frD)) hp (za4 ok) h
  ·exact h.elim⟩)
def zua  (zlg:Df K mg "add_spans" zjo zdc):Fk P w K mg base 1 "add_spans" zdc zde:=
 zlg.mk' (zau (k:=0) zlg.F ztN (zwm) fun cdv A outer s H E hr=>⟨_,(zah (zap (za1 (zaa (zam zba (zas (dv 0) zac (fun _ _=>rfl)) (zas (dv 1) zac (fun _ _=>rfl))) (zaa (zam zba (zas (dv 0) zac (fun _ _=>rfl)) (zas (dv 1) zac (fun _ _=>rfl))) zab))))),fun ds S Q ex h=>by
  unfold zde at h
  split at h
  ·exact h
  ·exact h.elim⟩)
def zuT  (zae:zbC K mg)(zak:zbH K mg)(zal:zbP K mg)(zad:zbD K mg)(zaf:zbA K mg)(zag:zbL K mg)(zi8:Dm K zae.C "forth" "Plus.forth" zlC zhp)(zb3:Fk P w K mg base 1 "add_spans" zdc zde):Fm P w K mg base 2 zae.C "forth" zhp (zeX zak.C zal.C zae.C zad.C zaf.C zag.C):=
 zi8.mk' (zau (k:=1) zi8.F zxV (zsA zak.C zal.C zae.C zad.C zaf.C zag.C) fun cdv A outer s H E hr=>⟨_,(zah (zap (zan zb3 hr (zaa (zaF (dv 1) (za9 zae.cl zae.n_one (dv 0)) (fun _ _=>rfl)) (zaa (zaF (dv 1) (za9 zae.cl zae.n_other (dv 0)) (fun _ _=>rfl)) zab))))),fun ds S Q ex h=>by
  unfold zeX at h
  split at h
  ·rename_i n w p g
   obtain⟨i,j,vs,bs,hn,hw,hp,ok,s1,hg,h⟩:=h
   refine za7 (n:=n) (fun K hK=>by exact hK) hn rfl ?_
   refine zaD (o:=.lst (vs.map frD)) hw (za4 ok.1) ?_
   refine za7 (n:=n) (fun K hK=>by exact hK) hn rfl ?_
   refine zaD (o:=.lst (vs.map frD)) hw (za4 ok.2) ?_
   exact h
  ·exact h.elim⟩)
def zr7  (zjI:Df K mg "take_spans" zkn zdA):Fk P w K mg base 1 "take_spans" zdA zdT:=
 zjI.mk' (zau (k:=0) zjI.F ztu (zw2) fun cdv A outer s H E hr=>⟨_,(zah (zap (za1 (zaa (zam zdE (zas (dv 0) zac (fun _ _=>rfl)) (zas (dv 1) zac (fun _ _=>rfl))) (zaa (zam zdE (zas (dv 0) zac (fun _ _=>rfl)) (zas (dv 1) zac (fun _ _=>rfl))) zab))))),fun ds S Q ex h=>by
  unfold zdT at h
  split at h
  ·exact h
  ·exact h.elim⟩)
def zwi  (zad:zbD K mg)(zak:zbH K mg)(zal:zbP K mg)(zae:zbC K mg)(zaf:zbA K mg)(zag:zbL K mg)(zmh:Dm K zad.C "forth" "Minus.forth" zku zhS)(zcq:Fk P w K mg base 1 "take_spans" zdA zdT):Fm P w K mg base 2 zad.C "forth" zhS (zeF zak.C zal.C zae.C zad.C zaf.C zag.C):=
 zmh.mk' (zau (k:=1) zmh.F zvx (zxF zak.C zal.C zae.C zad.C zaf.C zag.C) fun cdv A outer s H E hr=>⟨_,(zah (zap (zan zcq hr (zaa (zaF (dv 1) (za9 zad.cl zad.n_one (dv 0)) (fun _ _=>rfl)) (zaa (zaF (dv 1) (za9 zad.cl zad.n_other (dv 0)) (fun _ _=>rfl)) zab))))),fun ds S Q ex h=>by
  unfold zeF at h
  split at h
  ·rename_i n w p g
   obtain⟨i,j,vs,bs,hn,hw,hp,ok,s1,hg,h⟩:=h
   refine za7 (n:=n) (fun K hK=>by exact hK) hn rfl ?_
   refine zaD (o:=.lst (vs.map frD)) hw (za4 ok.1) ?_
   refine za7 (n:=n) (fun K hK=>by exact hK) hn rfl ?_
   refine zaD (o:=.lst (vs.map frD)) hw (za4 ok.2) ?_
   exact h
  ·exact h.elim⟩)
def ztm  (zlr:Df K mg "mul_spans" zjE zdx)(zdo:Fk P w K mg base 1 "rounded_up" zec zd2)(zbI:mg "max"=none)(zce:mg "min"=none):Fk P w K mg base 2 "mul_spans" zdx zdK:=
 zlr.mk' (zb0 (zau (k:=1) zlr.F zqW (zbV (zrr)) fun cdv A outer s H E hr=>⟨_,(zaj (zay (i:=3) zqW.nd rfl (Or.inl rfl) (zcf (zaa (zam zaZ (zas (dv 0) zac (fun _ _=>rfl)) (zas (dv 1) zac (fun _ _=>rfl))) (zaa (zam zaZ (zas (dv 0) zac (fun _ _=>rfl)) (zas (dv 1) zac (fun _ _=>rfl))) (zaa (zam zaZ (zas (dv 0) zac (fun _ _=>rfl)) (zas (dv 1) zac (fun _ _=>rfl))) (zaa (zam zaZ (zas (dv 0) zac (fun _ _=>rfl)) (zas (dv 1) zac (fun _ _=>rfl))) zab)))))) (zah (zap (za1 (zaa (zam zd1 (zaP (zaK (zox rfl)) rfl zce Boot.«min» (zaa (dv 3) zab)) (dv 2)) (zaa (zan zdo hr (zaa (zaP (zaK (zjM rfl)) rfl zbI Boot.«max» (zaa (dv 3) zab)) (zaa (dv 2) zab))) zab)))))),fun ds S Q ex h=>by
  obtain⟨Q0,ex0,rfl,rfl,h⟩:=h
  unfold zdK at h
  split at h
  ·rename_i a b c d g
   obtain⟨⟨⟨m1,m2,m3,m4⟩,hg⟩,h⟩:=h
   refine⟨m1,m2,m3,m4,?_⟩
   apply zdZ
   ·exact zax _ _
   ·rfl
   ·simp
   intro mn n1 n2
   refine⟨hg,?_⟩
   apply zdZ
   ·exact zax _ _
   ·rfl
   ·simp
   intro mx x1 x2
   refine⟨hg,?_⟩
   exact⟨Pre.refl.push,zfn,h mn mx (zeE.of n1 n2 x1 x2)⟩
  ·exact h.elim⟩))
def zuq  (zaf:zbA K mg)(zak:zbH K mg)(zal:zbP K mg)(zae:zbC K mg)(zad:zbD K mg)(zag:zbL K mg)(zlZ:Dm K zaf.C "forth" "Times.forth" zlD zhX)(zch:Fk P w K mg base 2 "mul_spans" zdx zdK):Fm P w K mg base 3 zaf.C "forth" zhX (zfC zak.C zal.C zae.C zad.C zaf.C zag.C):=
 zlZ.mk' (zau (k:=2) zlZ.F zrx (zxM zak.C zal.C zae.C zad.C zaf.C zag.C) fun cdv A outer s H E hr=>⟨_,(zah (zap (zan zch hr (zaa (zaF (dv 1) (za9 zaf.cl zaf.n_one (dv 0)) (fun _ _=>rfl)) (zaa (zaF (dv 1) (za9 zaf.cl zaf.n_other (dv 0)) (fun _ _=>rfl)) (zaa (dv 3) zab)))))),fun ds S Q ex h=>by
  unfold zfC at h
  split at h
  ·rename_i n w p g
   obtain⟨i,j,vs,bs,hn,hw,hp,ok,s1,hg,h⟩:=h
   refine za7 (n:=n) (fun K hK=>by exact hK) hn rfl ?_
   refine zaD (o:=.lst (vs.map frD)) hw (za4 ok.1) ?_
   refine za7 (n:=n) (fun K hK=>by exact hK) hn rfl ?_
   refine zaD (o:=.lst (vs.map frD)) hw (za4 ok.2) ?_
   have a:=s1.at ok.1
   have b:=s1.at ok.2
   have sg:Sz 21 g:=Sz.of 1000000 (by omega)
   refine⟨⟨⟨zaR a.2.1 b.2.1,zaR a.2.1 b.2.2,zaR a.2.2 b.2.1,zaR a.2.2 b.2.2⟩,sg.fd (by omega)⟩,fun mn mx hc=>?_⟩
   obtain⟨rfl,rfl⟩:=hc.eq
   exact h
  ·exact h.elim⟩)
def zvR  (zi6:Df K mg "raised" zma zgY)(zaH:mg "range"=none):Fk P w K mg base 1 "raised" zgY zhd:=
 zi6.mk' (zau (k:=0) zi6.F zkl (zw6) fun cdv A outer s H E hr=>⟨_,(zaj (zay (i:=2) zkl.nd rfl (Or.inl rfl) zac) (zaj (zc1 (i:=3) PassesOwn.never rfl zkl.nd rfl (Or.inl rfl) rfl zaH (zaa (dv 1) zab) (zah (zay (i:=2) zkl.nd rfl (Or.inl rfl) (zam zaZ (dv 2) (dv 0))))) (zah (zap (dv 2))))),fun ds S Q ex h=>by
  unfold zhd at h
  split at h
  ·rename_i x n
   obtain⟨⟨h0,h6,sx⟩,h⟩:=h
   refine⟨⟨by omega,by omega⟩,fun k dl' S'=>S'=S∧k≤n.toNat∧∃(z:Int) (o:Option D),z=x ^ k∧dl'=[some (.int x),some (.int n),some (.int z),o],⟨rfl,Nat.zero_le _,1,none,(Int.pow_zero x).symm,rfl⟩,?_⟩
   rintro k dl' S' ⟨rfl,hk,z,o,rfl,rfl⟩
   refine zcV (fun c=>?_) (fun c=>?_)
   ·exact⟨zaR (m:=12001) (n:=2000) ((sx.pow k).mono (by omega)) sx,rfl,by omega,_,_,(Int.pow_succ x k).symm,rfl⟩
   ·have e:k=n.toNat:=by omega
    subst e
    exact h
  ·exact h.elim⟩)
def zwc  (zk0:Df K mg "raise_span" zhI zeL)(zdo:Fk P w K mg base 1 "rounded_up" zec zd2)(zkk:Fk P w K mg base 1 "raised" zgY zhd)(zbI:mg "max"=none)(zce:mg "min"=none):Fk P w K mg base 2 "raise_span" zeL zeZ:=
 zk0.mk' (zb0 (zau (k:=1) zk0.F zka (zbV (zrL)) fun cdv A outer s H E hr=>⟨_,(zaj (zay (i:=3) zka.nd rfl (Or.inl rfl) (zcf (zaa (zas (dv 0) zac (fun _ _=>rfl)) (zaa (zas (dv 0) zac (fun _ _=>rfl)) zab)))) (zaj (zaS (zx5 zeC zeC (zas (dv 0) zac (fun _ _=>rfl)) zac (zas (dv 0) zac (fun _ _=>rfl))) (zah (zcU (zcM (dv 3) zac))) zaT) (zaj (zoW (x:="place") (N:=["grid","many"]) (caps:=[2,1]) (ar:=zao zhI) rfl rfl csc rfl (by decide) (i:=4) zka.nd rfl rfl (dv 3) (fun _ _ _ _ _ _=>zb9) (fun _ _ _ _ _ _=>(zam zaZ (zan zkk hr (zaa (dv 0) (zaa (dv 2) zab))) (dv 1)))) (zaj (zay (i:=5) zka.nd rfl (Or.inl rfl) (zan zkk hr (zaa (dv 2) (zaa (dv 1) zab)))) (zah (zap (za1 (zaa (zam zd1 (zaP (zaK (zox rfl)) rfl zce Boot.«min» (zaa (dv 4) zab)) (dv 5)) (zaa (zan zdo hr (zaa (zaP (zaK (zjM rfl)) rfl zbI Boot.«max» (zaa (dv 4) zab)) (zaa (dv 5) zab))) zab))))))))),fun ds S Q ex h=>by
  obtain⟨Q0,ex0,rfl,rfl,h⟩:=h
  unfold zeZ at h
  split at h
  ·rename_i a b n g
   obtain⟨⟨n2,n6,za,zb,hg,zg⟩,h⟩:=h
   refine ifD (fun c1=>?_) (fun c1=>?_)
   ·refine ifD (fun c2=>?_) (fun c2=>?_)
    ·refine zd5 (n:=S.length) (fun K hK=>hK) (zax _ _) (fun K hK=>hK) (by simp) ?_
     refine zdI (n:=S.length) (o:=.lst [.int a,.int b,.int 0]) (fun d=>match d with | .int v=>.int (v ^ n.toNat * g) | _=>.non) (fun K hK=>hK) (by simp) (by simp[zai]) (fun x hx S2 K _ hK=>?_) ?_
     ·have hx':x=.int a∨x=.int b∨x=.int 0:=by simpa [zai] using hx
      rcases hx' with rfl | rfl | rfl
      all_goals exact⟨⟨by omega,n6,by first | exact za.mono (by decide) | exact zb.mono (by decide) | exact Sz.of (n:=2000) 0 (by decide)⟩,zaR (m:=12001) (n:=1400) (((Sz.mono (n:=2000) (by first | exact za | exact zb | exact Sz.of (n:=1400) 0 (by decide)) (by decide)).pow _).mono (by omega)) zg,hK⟩
     refine⟨⟨by omega,n6,zg.mono (by decide)⟩,?_⟩
     have gp:(0:Int) < g ^ n.toNat:=Int.pow_pos (by omega)
     have zgp:Sz 8401 (g ^ n.toNat):=(zg.pow _).mono (by omega)
     apply zdZ
     ·exact zax _ _
     ·rfl
     ·simp
     intro mn q1 q2
     refine⟨zgp.fd gp,?_⟩
     apply zdZ
     ·exact zax _ _
     ·rfl
     ·simp
     intro mx x1 x2
     refine⟨zgp.fd gp,?_⟩
     obtain⟨m,M,hP,rfl,rfl⟩:=zdw.of (n:=n.toNat) hg (.inr ⟨rfl,c1,c2⟩) (by omega) q1 q2 x1 x2
     have r:=h m M hP
     rw[← ze2 hg (by omega),← ze2 hg (by omega),Int.neg_mul] at r
     exact⟨(fun i o e=>zcQ (by rw[List.set_append_right _ _ (Nat.le_refl _),List.getElem?_append_left (List.getElem?_eq_some_iff.mp e).1]; exact e)),zfn,r⟩
    ·skip
     refine zdI (n:=S.length) (o:=.lst [.int a,.int b]) (fun d=>match d with | .int v=>.int (v ^ n.toNat * g) | _=>.non) (fun K hK=>hK) (zax _ _) (by simp[zai]) (fun x hx S2 K _ hK=>?_) ?_
     ·have hx':x=.int a∨x=.int b:=by simpa [zai] using hx
      rcases hx' with rfl | rfl
      all_goals exact⟨⟨by omega,n6,by first | exact za.mono (by decide) | exact zb.mono (by decide) | exact Sz.of (n:=2000) 0 (by decide)⟩,zaR (m:=12001) (n:=1400) (((Sz.mono (n:=2000) (by first | exact za | exact zb | exact Sz.of (n:=1400) 0 (by decide)) (by decide)).pow _).mono (by omega)) zg,hK⟩
     refine⟨⟨by omega,n6,zg.mono (by decide)⟩,?_⟩
     have gp:(0:Int) < g ^ n.toNat:=Int.pow_pos (by omega)
     have zgp:Sz 8401 (g ^ n.toNat):=(zg.pow _).mono (by omega)
     apply zdZ
     ·exact zax _ _
     ·rfl
     ·simp
     intro mn q1 q2
     refine⟨zgp.fd gp,?_⟩
     apply zdZ
     ·exact zax _ _
     ·rfl
     ·simp
     intro mx x1 x2
     refine⟨zgp.fd gp,?_⟩
     obtain⟨m,M,hP,rfl,rfl⟩:=zdw.of (n:=n.toNat) hg (.inl ⟨rfl,fun c=>c2 c.2⟩) (by omega) q1 q2 x1 x2
     have r:=h m M hP
     rw[← ze2 hg (by omega),← ze2 hg (by omega),Int.neg_mul] at r
     exact⟨Pre.refl.push.push,zfn,r⟩
   ·skip
    refine zdI (n:=S.length) (o:=.lst [.int a,.int b]) (fun d=>match d with | .int v=>.int (v ^ n.toNat * g) | _=>.non) (fun K hK=>hK) (zax _ _) (by simp[zai]) (fun x hx S2 K _ hK=>?_) ?_
    ·have hx':x=.int a∨x=.int b:=by simpa [zai] using hx
     rcases hx' with rfl | rfl
     all_goals exact⟨⟨by omega,n6,by first | exact za.mono (by decide) | exact zb.mono (by decide) | exact Sz.of (n:=2000) 0 (by decide)⟩,zaR (m:=12001) (n:=1400) (((Sz.mono (n:=2000) (by first | exact za | exact zb | exact Sz.of (n:=1400) 0 (by decide)) (by decide)).pow _).mono (by omega)) zg,hK⟩
    refine⟨⟨by omega,n6,zg.mono (by decide)⟩,?_⟩
    have gp:(0:Int) < g ^ n.toNat:=Int.pow_pos (by omega)
    have zgp:Sz 8401 (g ^ n.toNat):=(zg.pow _).mono (by omega)
    apply zdZ
    ·exact zax _ _
    ·rfl
    ·simp
    intro mn q1 q2
    refine⟨zgp.fd gp,?_⟩
    apply zdZ
    ·exact zax _ _
    ·rfl
    ·simp
    intro mx x1 x2
    refine⟨zgp.fd gp,?_⟩
    obtain⟨m,M,hP,rfl,rfl⟩:=zdw.of (n:=n.toNat) hg (.inl ⟨rfl,fun c=>c1 c.1⟩) (by omega) q1 q2 x1 x2
    have r:=h m M hP
    rw[← ze2 hg (by omega),← ze2 hg (by omega),Int.neg_mul] at r
    exact⟨Pre.refl.push.push,zfn,r⟩
  ·exact h.elim⟩))
def zsz  (zag:zbL K mg)(zak:zbH K mg)(zal:zbP K mg)(zae:zbC K mg)(zad:zbD K mg)(zaf:zbA K mg)(zjO:Dm K zag.C "forth" "Power.forth" zmi zgg)(zfk:Fk P w K mg base 2 "raise_span" zeL zeZ):Fm P w K mg base 3 zag.C "forth" zgg (zeU zak.C zal.C zae.C zad.C zaf.C zag.C):=
 zjO.mk' (zau (k:=2) zjO.F ztR (zsI zak.C zal.C zae.C zad.C zaf.C zag.C) fun cdv A outer s H E hr=>⟨_,(zah (zap (zan zfk hr (zaa (zaF (dv 1) (za9 zag.cl zag.n_one (dv 0)) (fun _ _=>rfl)) (zaa (za9 zag.cl zag.n_many (dv 0)) (zaa (dv 3) zab)))))),fun ds S Q ex h=>by
  unfold zeU at h
  split at h
  ·rename_i n w p g
   obtain⟨i,m,vs,bs,hn,hw,hp,ok,s1,hg,h⟩:=h
   refine za7 (n:=n) (fun K hK=>by exact hK) hn rfl ?_
   refine zaD (o:=.lst (vs.map frD)) hw (za4 ok.1) ?_
   refine za7 (n:=n) (fun K hK=>by exact hK) hn rfl ?_
   have a:=s1.at ok.1
   have sg:Sz 21 g:=Sz.of 1000000 (by omega)
   refine⟨⟨by have:=ok.2.1; omega,ok.2.2,a.2.1,a.2.2,hg.1,sg.mono (by decide)⟩,fun m' M' hP=>?_⟩
   obtain⟨rfl,rfl⟩:=hP.eq (by have:=ok.2.1; omega)
   exact h
  ·exact h.elim⟩)
def zwr  (zag:zbL K mg)(zk7:Dm K zag.C "__init__" "Power.__init__" zmc zf7):Fm P w K mg base 1 zag.C "__init__" zf7 (zf9 zag.C):=
 zk7.mk' (zau (k:=0) zk7.F zvl (zv7 zag.C) fun cdv A outer s H E hr=>⟨_,(zaj (zcX zag.cl zag.n_one (dv 0) (dv 1)) (zah (zcX zag.cl zag.n_many (dv 0) (dv 2)))),fun ds S Q ex h=>by
  unfold zf9 at h
  split at h
  ·rename_i n x y
   obtain⟨T,rfl,rfl,h⟩:=h
   refine zcN (v:=x) (S1:=T++[Ob.ins zag.C []]) (S2:=T++[Ob.ins zag.C []]) (n:=T.length) (fs:=[]) (fun K hK=>by exact hK) (fun K hK=>by exact hK) (zcR ..) (by simp) ?_
   rw[zcG]
   refine zcN (v:=y) (S1:=T++[Ob.ins zag.C [("one",x)]]) (S2:=T++[Ob.ins zag.C [("one",x)]]) (n:=T.length) (fs:=[("one",x)]) (fun K hK=>by exact hK) (fun K hK=>by exact hK) (zcR ..) (by simp) ?_
   rw[zcG]
   exact h
  ·exact h.elim⟩)
def zsQ  (zak:zbH K mg)(zjz:Dm K zak.C "__init__" "Number.__init__" zmu ziy):Fm P w K mg base 1 zak.C "__init__" ziy (zin zak.C):=
 zjz.mk' (zau (k:=0) zjz.F zrV (zxI zak.C) fun cdv A outer s H E hr=>⟨_,(zaj (zcX zak.cl zak.n_top (dv 0) (dv 1)) (zah (zcX zak.cl zak.n_bottom (dv 0) (dv 2)))),fun ds S Q ex h=>by
  unfold zin at h
  split at h
  ·rename_i n x y
   obtain⟨T,rfl,rfl,h⟩:=h
   refine zcN (v:=x) (S1:=T++[Ob.ins zak.C []]) (S2:=T++[Ob.ins zak.C []]) (n:=T.length) (fs:=[]) (fun K hK=>by exact hK) (fun K hK=>by exact hK) (zcR ..) (by simp) ?_
   rw[zcG]
   refine zcN (v:=y) (S1:=T++[Ob.ins zak.C [("top",x)]]) (S2:=T++[Ob.ins zak.C [("top",x)]]) (n:=T.length) (fs:=[("top",x)]) (fun K hK=>by exact hK) (fun K hK=>by exact hK) (zcR ..) (by simp) ?_
   rw[zcG]
   exact h
  ·exact h.elim⟩)
def zrD  (zal:zbP K mg)(zjV:Dm K zal.C "__init__" "Unknown.__init__" zkg zie):Fm P w K mg base 1 zal.C "__init__" zie (zh7 zal.C):=
 zjV.mk' (zau (k:=0) zjV.F zsP (zsW zal.C) fun cdv A outer s H E hr=>⟨_,(zah (zcX zal.cl zal.n_place (dv 0) (dv 1))),fun ds S Q ex h=>by
  unfold zh7 at h
  split at h
  ·rename_i n x
   obtain⟨T,rfl,rfl,h⟩:=h
   refine zcN (v:=x) (S1:=T++[Ob.ins zal.C []]) (S2:=T++[Ob.ins zal.C []]) (n:=T.length) (fs:=[]) (fun K hK=>by exact hK) (fun K hK=>by exact hK) (zcR ..) (by simp) ?_
   rw[zcG]
   exact h
  ·exact h.elim⟩)
def zrj  (zae:zbC K mg)(zjc:Dm K zae.C "__init__" "Pair.__init__" zkf zgP):Fm P w K mg base 1 zae.C "__init__" zgP (zij zae.C):=
 zjc.mk' (zau (k:=0) zjc.F zxX (zwP zae.C) fun cdv A outer s H E hr=>⟨_,(zaj (zcX zae.cl zae.n_one (dv 0) (dv 1)) (zah (zcX zae.cl zae.n_other (dv 0) (dv 2)))),fun ds S Q ex h=>by
  unfold zij at h
  split at h
  ·rename_i n x y
   obtain⟨T,rfl,rfl,h⟩:=h
   refine zcN (v:=x) (S1:=T++[Ob.ins zae.C []]) (S2:=T++[Ob.ins zae.C []]) (n:=T.length) (fs:=[]) (fun K hK=>by exact hK) (fun K hK=>by exact hK) (zcR ..) (by simp) ?_
   rw[zcG]
   refine zcN (v:=y) (S1:=T++[Ob.ins zae.C [("one",x)]]) (S2:=T++[Ob.ins zae.C [("one",x)]]) (n:=T.length) (fs:=[("one",x)]) (fun K hK=>by exact hK) (fun K hK=>by exact hK) (zcR ..) (by simp) ?_
   rw[zcG]
   exact h
  ·exact h.elim⟩)
def zuL  (zad:zbD K mg)(zjx:Dm K zad.C "__init__" "Pair.__init__" zlN zg5):Fm P w K mg base 1 zad.C "__init__" zg5 (zgv zad.C):=
 zjx.mk' (zau (k:=0) zjx.F zv4 (zr8 zad.C) fun cdv A outer s H E hr=>⟨_,(zaj (zcX zad.cl zad.n_one (dv 0) (dv 1)) (zah (zcX zad.cl zad.n_other (dv 0) (dv 2)))),fun ds S Q ex h=>by
  unfold zgv at h
  split at h
  ·rename_i n x y
   obtain⟨T,rfl,rfl,h⟩:=h
   refine zcN (v:=x) (S1:=T++[Ob.ins zad.C []]) (S2:=T++[Ob.ins zad.C []]) (n:=T.length) (fs:=[]) (fun K hK=>by exact hK) (fun K hK=>by exact hK) (zcR ..) (by simp) ?_
   rw[zcG]
   refine zcN (v:=y) (S1:=T++[Ob.ins zad.C [("one",x)]]) (S2:=T++[Ob.ins zad.C [("one",x)]]) (n:=T.length) (fs:=[("one",x)]) (fun K hK=>by exact hK) (fun K hK=>by exact hK) (zcR ..) (by simp) ?_
   rw[zcG]
   exact h
  ·exact h.elim⟩)
def zsr  (zaf:zbA K mg)(zjg:Dm K zaf.C "__init__" "Pair.__init__" zl2 zhc):Fm P w K mg base 1 zaf.C "__init__" zhc (zhe zaf.C):=
 zjg.mk' (zau (k:=0) zjg.F zvK (zw7 zaf.C) fun cdv A outer s H E hr=>⟨_,(zaj (zcX zaf.cl zaf.n_one (dv 0) (dv 1)) (zah (zcX zaf.cl zaf.n_other (dv 0) (dv 2)))),fun ds S Q ex h=>by
  unfold zhe at h
  split at h
  ·rename_i n x y
   obtain⟨T,rfl,rfl,h⟩:=h
   refine zcN (v:=x) (S1:=T++[Ob.ins zaf.C []]) (S2:=T++[Ob.ins zaf.C []]) (n:=T.length) (fs:=[]) (fun K hK=>by exact hK) (fun K hK=>by exact hK) (zcR ..) (by simp) ?_
   rw[zcG]
   refine zcN (v:=y) (S1:=T++[Ob.ins zaf.C [("one",x)]]) (S2:=T++[Ob.ins zaf.C [("one",x)]]) (n:=T.length) (fs:=[("one",x)]) (fun K hK=>by exact hK) (fun K hK=>by exact hK) (zcR ..) (by simp) ?_
   rw[zcG]
   exact h
  ·exact h.elim⟩)
def ztP  (zag:zbL K mg)(zaf:zbA K mg)(zad:zbD K mg)(zae:zbC K mg)(zal:zbP K mg)(zak:zbH K mg)(zlB:Df K mg "kind_of" zl3 ze6)(zfo:Fm P w K mg base 1 zag.C "__init__" zf7 (zf9 zag.C))(zfj:Fm P w K mg base 1 zaf.C "__init__" zhc (zhe zaf.C))(zfU:Fm P w K mg base 1 zad.C "__init__" zg5 (zgv zad.C))(ze9:Fm P w K mg base 1 zae.C "__init__" zgP (zij zae.C))(zeJ:Fm P w K mg base 1 zal.C "__init__" zie (zh7 zal.C))(ze0:Fm P w K mg base 1 zak.C "__init__" ziy (zin zak.C)):Fk P w K mg base 3 "kind_of" ze6 (zfy zak.C zal.C zae.C zad.C zaf.C zag.C):=
 zlB.mk' (zau (k:=2) zlB.F zuA (zv9 zak.C zal.C zae.C zad.C zaf.C zag.C) fun cdv A outer s H E hr=>⟨_,(zaj (zaS (zaO (zbe hr) (zas (dv 0) zac (fun _ _=>rfl)) zbB (zaE _)) (zah (zap (zey ⟨zak.makes,ze0.m.at_,ze0.m.fn,zak.kp⟩ ze0.ok (hr.mono (by decide)) rfl zak.m ze0.b zfs (zaa (zas (dv 0) zac (fun _ _=>rfl)) (zaa (zas (dv 0) zac (fun _ _=>rfl)) zab))))) zaT) (zaj (zaS (zaO (zbe hr) (zas (dv 0) zac (fun _ _=>rfl)) zbB (zaE _)) (zah (zap (zey ⟨zal.makes,zeJ.m.at_,zeJ.m.fn,zal.kp⟩ zeJ.ok (hr.mono (by decide)) rfl zal.m zeJ.b zfs (zaa (zas (dv 0) zac (fun _ _=>rfl)) zab)))) zaT) (zaj (zaS (zaO (zbe hr) (zas (dv 0) zac (fun _ _=>rfl)) zbB (zaE _)) (zah (zap (zey ⟨zae.makes,ze9.m.at_,ze9.m.fn,zae.kp⟩ ze9.ok (hr.mono (by decide)) rfl zae.m ze9.b zfs (zaa (zas (dv 0) zac (fun _ _=>rfl)) (zaa (zas (dv 0) zac (fun _ _=>rfl)) zab))))) zaT) (zaj (zaS (zaO (zbe hr) (zas (dv 0) zac (fun _ _=>rfl)) zbB (zaE _)) (zah (zap (zey ⟨zad.makes,zfU.m.at_,zfU.m.fn,zad.kp⟩ zfU.ok (hr.mono (by decide)) rfl zad.m zfU.b zfs (zaa (zas (dv 0) zac (fun _ _=>rfl)) (zaa (zas (dv 0) zac (fun _ _=>rfl)) zab))))) zaT) (zaj (zaS (zaO (zbe hr) (zas (dv 0) zac (fun _ _=>rfl)) zbB (zaE _)) (zah (zap (zey ⟨zaf.makes,zfj.m.at_,zfj.m.fn,zaf.kp⟩ zfj.ok (hr.mono (by decide)) rfl zaf.m zfj.b zfs (zaa (zas (dv 0) zac (fun _ _=>rfl)) (zaa (zas (dv 0) zac (fun _ _=>rfl)) zab))))) zaT) (zah (zap (zey ⟨zag.makes,zfo.m.at_,zfo.m.fn,zag.kp⟩ zfo.ok (hr.mono (by decide)) rfl zag.m zfo.b zfs (zaa (zas (dv 0) zac (fun _ _=>rfl)) (zaa (zas (dv 0) zac (fun _ _=>rfl)) zab)))))))))),fun ds S Q ex h=>by
  unfold zfy at h
  split at h
  ·obtain⟨v,rfl,h⟩:=h
   cases v <;> exact⟨S,rfl,rfl,rfl,h⟩
  ·exact h.elim⟩)
def zs1  (zag:zbL K mg)(zaf:zbA K mg)(zad:zbD K mg)(zae:zbC K mg)(zal:zbP K mg)(zak:zbH K mg)(zlT:Df K mg "worths" zlL zd4)(znw:Fm P w K mg base 3 zag.C "forth" zgg (zeU zak.C zal.C zae.C zad.C zaf.C zag.C))(znl:Fm P w K mg base 3 zaf.C "forth" zhX (zfC zak.C zal.C zae.C zad.C zaf.C zag.C))(znY:Fm P w K mg base 2 zad.C "forth" zhS (zeF zak.C zal.C zae.C zad.C zaf.C zag.C))(zoC:Fm P w K mg base 2 zae.C "forth" zhp (zeX zak.C zal.C zae.C zad.C zaf.C zag.C))(znf:Fm P w K mg base 1 zal.C "forth" zgq (ze4 zak.C zal.C zae.C zad.C zaf.C zag.C))(zmW:Fm P w K mg base 3 zak.C "forth" zhH (zeI zak.C zal.C zae.C zad.C zaf.C zag.C))(ze3:Fk P w K mg base 3 "kind_of" ze6 (zfy zak.C zal.C zae.C zad.C zaf.C zag.C)):Fk P w K mg base 4 "worths" zd4 zeo:=
 zlT.mk' (zau (k:=3) zlT.F zog (zt7) fun cdv A outer s H E hr=>⟨_,(zaj (zay (i:=3) zog.nd rfl (Or.inl rfl) (zcf zab)) (zaj (zmj (i:=4) PassesOwn.never rfl zog.nd rfl (Or.inl rfl) (dv 0) (zah (zcU (zcM (dv 3) (zqG (zan ze3 hr (zaa (dv 4) zab)) (zcw zak.cl zmW (hr.mono (by decide)) (zcw zal.cl znf (hr.mono (by decide)) (zcw zae.cl zoC (hr.mono (by decide)) (zcw zad.cl znY (hr.mono (by decide)) (zcw zaf.cl znl (hr.mono (by decide)) (zcw zag.cl znw (hr.mono (by decide)) zpD)))))) zfQ (zaa (dv 3) (zaa (dv 1) (zaa (dv 2) zab)))))))) (zah (zap (dv 3))))),fun ds S Q ex h=>by
  unfold zeo at h
  split at h
  ·rename_i a b g
   obtain⟨ns,ws,bs,ha,hb,net,sb,hg,hl,h⟩:=h
   have disp:∀v:Nd,∃C fs sd,v.ob zak.C zal.C zae.C zad.C zaf.C zag.C=.ins C fs∧(C,sd)∈[(zak.C,zeI zak.C zal.C zae.C zad.C zaf.C zag.C),(zal.C,ze4 zak.C zal.C zae.C zad.C zaf.C zag.C),(zae.C,zeX zak.C zal.C zae.C zad.C zaf.C zag.C),(zad.C,zeF zak.C zal.C zae.C zad.C zaf.C zag.C),(zaf.C,zfC zak.C zal.C zae.C zad.C zaf.C zag.C),(zag.C,zeU zak.C zal.C zae.C zad.C zaf.C zag.C)]∧fs.lookup ("forth":Str)=none∧∀(n w p:Nat) (g:Int) (S:Sto) (Q:DK) (ex:Addr→Sto→Prop) (vs bs:List (Int×Int)),S[n]?=some (v.ob zak.C zal.C zae.C zad.C zaf.C zag.C)→S[w]?=some (.lst (vs.map frD))→S[p]?=some (.lst (bs.map frD))→v.ok vs.length bs.length→Spn 1400 vs→(1≤g∧g≤1000000)→Q (frD (v.fw vs bs g)) S→sd [.ref n,.ref w,.ref p,.int g] S Q ex:=by
    intro v
    cases v with
    | number x y=>exact⟨_,_,_,rfl,(.head _),rfl,fun n w p g S Q ex vs bs a1 a2 a3 a4 a5 a6 q=>⟨x,y,vs,bs,a1,a2,a3,a4,a5,a6,q⟩⟩
    | unknown k=>exact⟨_,_,_,rfl,(.tail _ (.head _)),rfl,fun n w p g S Q ex vs bs a1 a2 a3 a4 a5 a6 q=>⟨k,vs,bs,a1,a2,a3,a4,a5,a6,q⟩⟩
    | plus i j=>exact⟨_,_,_,rfl,(.tail _ (.tail _ (.head _))),rfl,fun n w p g S Q ex vs bs a1 a2 a3 a4 a5 a6 q=>⟨i,j,vs,bs,a1,a2,a3,a4,a5,a6,q⟩⟩
    | minus i j=>exact⟨_,_,_,rfl,(.tail _ (.tail _ (.tail _ (.head _)))),rfl,fun n w p g S Q ex vs bs a1 a2 a3 a4 a5 a6 q=>⟨i,j,vs,bs,a1,a2,a3,a4,a5,a6,q⟩⟩
    | times i j=>exact⟨_,_,_,rfl,(.tail _ (.tail _ (.tail _ (.tail _ (.head _))))),rfl,fun n w p g S Q ex vs bs a1 a2 a3 a4 a5 a6 q=>⟨i,j,vs,bs,a1,a2,a3,a4,a5,a6,q⟩⟩
    | power i m=>exact⟨_,_,_,rfl,(.tail _ (.tail _ (.tail _ (.tail _ (.tail _ (.head _)))))),rfl,fun n w p g S Q ex vs bs a1 a2 a3 a4 a5 a6 q=>⟨i,m,vs,bs,a1,a2,a3,a4,a5,a6,q⟩⟩
   have la:=zbh ha
   have lb:=zbh hb
   refine zlt (n:=a) (o:=.lst (ns.map Nd.d)) (fun k dl' S'=>k≤ns.length∧Pre S S'∧S'[S.length]?=some (.lst ((zar bs g (ns.take k)).map frD))∧∃u:Option D,dl'=[some (.ref a),some (.ref b),some (.int g),some (.ref S.length),u]) ⟨Nat.zero_le _,Pre.refl.push,zax _ _,_,rfl⟩ (fun k dl' S' w=>w.2.1 _ _ ha) ?_ ?_
   ·rintro k x dl' S' nx ct ex' ⟨hk,pr,hf,u,rfl⟩ hn
    have ex2:(ns.map Nd.d)[k]?=some x:=ex'
    rw[List.getElem?_map] at ex2
    obtain⟨v,hv,rfl⟩:=Option.map_eq_some_iff.mp ex2
    have hk':=(List.getElem?_eq_some_iff.mp hv).1
    have ln:(zar bs g (ns.take k)).length=k:=by rw[zcB,List.length_take]; omega
    have okv:v.ok (zar bs g (ns.take k)).length bs.length:=by rw[ln]; exact(net.ok k v hv).1
    obtain⟨C,fs,sd,eo,hm,hf2,go⟩:=disp v
    have N1:=zax S' (v.ob zak.C zal.C zae.C zad.C zaf.C zag.C)
    refine zvS (n:=S.length) (S1:=S') (S2:=S'++[v.ob zak.C zal.C zae.C zad.C zaf.C zag.C]) (xs:=(zar bs g (ns.take k)).map frD) (y:=frD (v.fw (zar bs g (ns.take k)) bs g)) (fun K hK=>by exact hK) hf (fun K hK=>?_) (zaz hf) (by rw[List.length_map,ln]; omega) ?_
    ·refine zpu (n:=S'.length) (C:=C) (sd:=sd) (fs:=fs) (S1:=S'++[v.ob zak.C zal.C zae.C zad.C zaf.C zag.C]) (fun K hK=>⟨v,rfl,by exact hK⟩) (by rw[← eo]; exact N1) hm hf2 ?_
     exact go _ _ _ _ _ _ _ (zar bs g (ns.take k)) bs N1 (zaz hf) (zaz (pr _ _ hb)) okv ((zqE net rfl sb hg k hk).mono (by decide)) hg hK
    ·refine hn _ _ ⟨by omega,zhJ (zcs pr _) (Nat.le_refl _),?_,_,rfl⟩
     rw[zbT hv,zhw,List.map_append]
     exact zcv (zaz hf)
   ·rintro dl' S' ⟨hk,pr,hf,u,rfl⟩
    refine h _ _ pr (Nat.le_refl _) ?_
    have e:ns.take (zai (.lst (ns.map Nd.d))).length=ns:=by
     show ns.take (ns.map Nd.d).length=ns
     rw[List.length_map,List.take_length]
    rw[e] at hf
    exact hf
  ·exact h.elim⟩)
def ztF  (zak:zbH K mg)(zal:zbP K mg)(zae:zbC K mg)(zad:zbD K mg)(zaf:zbA K mg)(zag:zbL K mg)(zjh:Dm K zak.C "slope" "Number.slope" zkp zia):Fm P w K mg base 1 zak.C "slope" zia (zfr zak.C zal.C zae.C zad.C zaf.C zag.C):=
 zjh.mk' (zau (k:=0) zjh.F zxr (zs3 zak.C zal.C zae.C zad.C zaf.C zag.C) fun cdv A outer s H E hr=>⟨_,(zah (zap (zam ztD (zcf (zaa (za1 (zaa zac (zaa zac zab))) zab)) (dv 3)))),fun ds S Q ex h=>by
  unfold zfr at h
  split at h
  ·rename_i n w s qi g
   obtain⟨x,y,q,vs,sl,ds,hn,hw,hs,rows,sz,⟨rfl,hq⟩,ok,lv,s1,hg,h⟩:=h
   have sg:Sz 21 g:=Sz.of 1000000 (by omega)
   have fin:∀ys:List D,ys=(zbf vs sl g q (Nd.number x y)).map frD→Q (.ref (S++[Ob.lst [frD (0,0)]]).length) ((S++[.lst [frD (0,0)]])++[.lst ys]):=fun ys e=>by
    subst e
    exact h _ _ Pre.refl.push.push (by simp) (zax _ _)
   refine zxc (n:=S.length) (k:=((q:Nat):Int)) (xs:=[frD (0,0)]) (zax _ _) ⟨by omega,by omega⟩ (by simp; omega) ?_
   refine fin _ ?_
   rw[Int.toNat_natCast,ztn]
   unfold zbf
   rw[List.map_map]
   rfl
  ·exact h.elim⟩)
def zwZ  (zal:zbP K mg)(zak:zbH K mg)(zae:zbC K mg)(zad:zbD K mg)(zaf:zbA K mg)(zag:zbL K mg)(zmD:Dm K zal.C "slope" "Unknown.slope" ziq zgy)(zaH:mg "range"=none):Fm P w K mg base 1 zal.C "slope" zgy (zeT zak.C zal.C zae.C zad.C zaf.C zag.C):=
 zmD.mk' (zau (k:=0) zmD.F zxY (zw3 zak.C zal.C zae.C zad.C zaf.C zag.C) fun cdv A outer s H E hr=>⟨_,(zah (zap (zmZ (x:="k") (N:=["grid","self"]) (caps:=[4,0]) (ar:=zao ziq) rfl rfl csc rfl (by decide) rfl zaH (zaa (dv 3) zab) (fun _ _ _ _ _ _=>zb9) (fun _ _ _ _ _ _=>(zod (zaO (zbe hr) (dv 0) (za9 zal.cl zal.n_place (dv 2)) (zaE _)) (za1 (zaa (dv 1) (zaa (dv 1) zab))) (za1 (zaa zac (zaa zac zab)))))))),fun ds S Q ex h=>by
  unfold zeT at h
  split at h
  ·rename_i n w s qi g
   obtain⟨k,q,vs,sl,ds,hn,hw,hs,rows,sz,⟨rfl,hq⟩,ok,lv,s1,hg,h⟩:=h
   have sg:Sz 21 g:=Sz.of 1000000 (by omega)
   have fin:∀ys:List D,ys=(zbf vs sl g q (Nd.unknown k)).map frD→Q (.ref S.length) (S++[.lst ys]):=fun ys e=>by
    subst e
    exact h _ _ Pre.refl.push (by simp) (zax _ _)
   refine zmt (j:=((q:Nat):Int)) (S1:=S) (fun l=>frD (if (l:Int)=k then (g,g) else (0,0))) (fun K hK=>by exact hK) ⟨by omega,by omega⟩ (fun l hl S2 K pr hK=>?_) ?_
   ·refine za7 (n:=n) (fun K hK=>by exact hK) (pr _ _ hn) rfl ?_
    refine ifD (fun e=>?_) (fun e=>?_)
    ·rw[if_pos e] at hK
     exact hK
    ·rw[if_neg e] at hK
     exact hK
   ·refine fin _ ?_
    rw[Int.toNat_natCast]
    unfold zbf
    rw[List.map_map]
    rfl
  ·exact h.elim⟩)
def zrS  (zae:zbC K mg)(zmr:Dm K zae.C "slope_of_both" "Plus.slope_of_both" zks zhN)(zb3:Fk P w K mg base 1 "add_spans" zdc zde):Fm P w K mg base 2 zae.C "slope_of_both" zhN (zh4 zae.C):=
 zmr.mk' (zau (k:=1) zmr.F ztW (zw9 zae.C) fun cdv A outer s H E hr=>⟨_,(zah (zap (zan zb3 hr (zaa (dv 3) (zaa (dv 4) zab))))),fun ds S Q ex h=>by
  unfold zh4 at h
  split at h
  ·exact h
  ·exact h.elim⟩)
def zuI  (zae:zbC K mg)(zak:zbH K mg)(zal:zbP K mg)(zad:zbD K mg)(zaf:zbA K mg)(zag:zbL K mg)(zk8:Dm K zae.C "slope" "Pair.slope" zf6 zgX)(zhr:Fm P w K mg base 2 zae.C "slope_of_both" zhN (zh4 zae.C))(zbk:mg "zip"=none):Fm P w K mg base 3 zae.C "slope" zgX (zfH zak.C zal.C zae.C zad.C zaf.C zag.C):=
 zk8.mk' (zau (k:=2) zk8.F znz (zvG zak.C zal.C zae.C zad.C zaf.C zag.C) fun cdv A outer s H E hr=>⟨_,(zaj (zay (i:=5) znz.nd rfl (Or.inr rfl) (zaF (dv 1) (za9 zae.cl zae.n_one (dv 0)) (fun _ _=>rfl))) (zaj (zay (i:=6) znz.nd rfl (Or.inr rfl) (zaF (dv 1) (za9 zae.cl zae.n_other (dv 0)) (fun _ _=>rfl))) (zah (zap (zk9 (x1:="a") (x2:="b") (N:=["x","y","grid","self"]) (caps:=[5,6,4,0]) (ar:=zao zf6) rfl rfl zcW rfl rfl rfl (by decide) rfl zbk Boot.«zip» (zaa (zaF (dv 2) (za9 zae.cl zae.n_one (dv 0)) (fun _ _=>rfl)) (zaa (zaF (dv 2) (za9 zae.cl zae.n_other (dv 0)) (fun _ _=>rfl)) zab)) (fun _ _ _ _ _ _=>(zns (C:=zae.C) (dv 5) zae.cl zhr.m zhr.ok (hr.mono (by decide)) zhr.b zfQ (zaa (dv 2) (zaa (dv 3) (zaa (dv 0) (zaa (dv 1) (zaa (dv 4) zab)))))))))))),fun ds S Q ex h=>by
  unfold zfH at h
  split at h
  ·rename_i n w s qi g
   obtain⟨i,j,q,vs,sl,ds,hn,hw,hs,rows,sz,⟨rfl,hq⟩,ok,lv,s1,hg,h⟩:=h
   have sg:Sz 21 g:=Sz.of 1000000 (by omega)
   have fin:∀ys:List D,ys=(zbf vs sl g q (Nd.plus i j)).map frD→Q (.ref S.length) (S++[.lst ys]):=fun ys e=>by
    subst e
    exact h _ _ Pre.refl.push (by simp) (zax _ _)
   refine za7 (n:=n) (fun K hK=>by exact hK) hn rfl ?_
   refine zaD (o:=.lst (vs.map frD)) hw (za4 (i:=i) ⟨ok.1.1,by have:=ok.1.2; omega⟩) ?_
   refine za7 (n:=n) (fun K hK=>by exact hK) hn rfl ?_
   refine zaD (o:=.lst (vs.map frD)) hw (za4 (i:=j) ⟨ok.2.1,by have:=ok.2.2; omega⟩) ?_
   obtain⟨a1,ea,_,ha⟩:=rows.at ok.1
   obtain⟨a2,eb,_,hb⟩:=rows.at ok.2
   obtain⟨la,za⟩:=sz i ok.1
   obtain⟨lb,zb⟩:=sz j ok.2
   have ci:=s1.at (i:=i) ⟨ok.1.1,by have:=ok.1.2; omega⟩
   have cj:=s1.at (i:=j) ⟨ok.2.1,by have:=ok.2.2; omega⟩
   refine zho (n:=a1) (n':=a2) (S1:=S) (xs:=(sl.getD i.toNat []).map frD) (ys:=(sl.getD j.toNat []).map frD) (fun x y=>match x,y with | .tup [.int a,.int b],.tup [.int c,.int d]=>.tup [.int (a + c),.int (b + d)] | _,_=>.non) (fun K hK=>by
    refine za7 (n:=n) (fun K hK=>by exact hK) hn rfl ?_
    refine zaD (o:=.lst ds) hs ea ?_
    refine za7 (n:=n) (fun K hK=>by exact hK) hn rfl ?_
    exact zaD (o:=.lst ds) hs eb hK) ha hb (by rw[List.length_map,la]; omega) (fun k x y hx hy S2 K pr hK=>?_) ?_
   ·rw[List.getElem?_map] at hx hy
    obtain⟨p,hp,rfl⟩:=Option.map_eq_some_iff.mp hx
    obtain⟨r,hr,rfl⟩:=Option.map_eq_some_iff.mp hy
    have kq:k < q:=by
     have:=(List.getElem?_eq_some_iff.mp hp).1
     omega
    have e1:gs sl i k=p:=by
     unfold gs
     rw[List.getD_eq_getElem?_getD,hp]
     rfl
    have e2:gs sl j k=r:=by
     unfold gs
     rw[List.getD_eq_getElem?_getD,hr]
     rfl
    have z1:=za k kq
    have z2:=zb k kq
    rw[e1] at z1
    rw[e2] at z2
    refine zou (n:=n) (fs:=[("one",.int i),("other",.int j)]) (fun K hK=>by exact hK) (pr _ _ hn) rfl ?_
    exact hK
   ·refine fin _ ?_
    rw[List.zipWith_map]
    unfold zbf
    rw[List.map_map]
    rw[zm8 _ _ _ la lb]
    rfl
  ·exact h.elim⟩)
def zr3  (zad:zbD K mg)(zkh:Dm K zad.C "slope_of_both" "Minus.slope_of_both" zjL zhZ)(zcq:Fk P w K mg base 1 "take_spans" zdA zdT):Fm P w K mg base 2 zad.C "slope_of_both" zhZ (ziD zad.C):=
 zkh.mk' (zau (k:=1) zkh.F zsL (zxd zad.C) fun cdv A outer s H E hr=>⟨_,(zah (zap (zan zcq hr (zaa (dv 3) (zaa (dv 4) zab))))),fun ds S Q ex h=>by
  unfold ziD at h
  split at h
  ·exact h
  ·exact h.elim⟩)
def ztz  (zad:zbD K mg)(zak:zbH K mg)(zal:zbP K mg)(zae:zbC K mg)(zaf:zbA K mg)(zag:zbL K mg)(zl1:Dm K zad.C "slope" "Pair.slope" zhz zgN)(zga:Fm P w K mg base 2 zad.C "slope_of_both" zhZ (ziD zad.C))(zbk:mg "zip"=none):Fm P w K mg base 3 zad.C "slope" zgN (zez zak.C zal.C zae.C zad.C zaf.C zag.C):=
 zl1.mk' (zau (k:=2) zl1.F zmX (zxo zak.C zal.C zae.C zad.C zaf.C zag.C) fun cdv A outer s H E hr=>⟨_,(zaj (zay (i:=5) zmX.nd rfl (Or.inr rfl) (zaF (dv 1) (za9 zad.cl zad.n_one (dv 0)) (fun _ _=>rfl))) (zaj (zay (i:=6) zmX.nd rfl (Or.inr rfl) (zaF (dv 1) (za9 zad.cl zad.n_other (dv 0)) (fun _ _=>rfl))) (zah (zap (zk9 (x1:="a") (x2:="b") (N:=["x","y","grid","self"]) (caps:=[5,6,4,0]) (ar:=zao zhz) rfl rfl zcW rfl rfl rfl (by decide) rfl zbk Boot.«zip» (zaa (zaF (dv 2) (za9 zad.cl zad.n_one (dv 0)) (fun _ _=>rfl)) (zaa (zaF (dv 2) (za9 zad.cl zad.n_other (dv 0)) (fun _ _=>rfl)) zab)) (fun _ _ _ _ _ _=>(zns (C:=zad.C) (dv 5) zad.cl zga.m zga.ok (hr.mono (by decide)) zga.b zfQ (zaa (dv 2) (zaa (dv 3) (zaa (dv 0) (zaa (dv 1) (zaa (dv 4) zab)))))))))))),fun ds S Q ex h=>by
  unfold zez at h
  split at h
  ·rename_i n w s qi g
   obtain⟨i,j,q,vs,sl,ds,hn,hw,hs,rows,sz,⟨rfl,hq⟩,ok,lv,s1,hg,h⟩:=h
   have sg:Sz 21 g:=Sz.of 1000000 (by omega)
   have fin:∀ys:List D,ys=(zbf vs sl g q (Nd.minus i j)).map frD→Q (.ref S.length) (S++[.lst ys]):=fun ys e=>by
    subst e
    exact h _ _ Pre.refl.push (by simp) (zax _ _)
   refine za7 (n:=n) (fun K hK=>by exact hK) hn rfl ?_
   refine zaD (o:=.lst (vs.map frD)) hw (za4 (i:=i) ⟨ok.1.1,by have:=ok.1.2; omega⟩) ?_
   refine za7 (n:=n) (fun K hK=>by exact hK) hn rfl ?_
   refine zaD (o:=.lst (vs.map frD)) hw (za4 (i:=j) ⟨ok.2.1,by have:=ok.2.2; omega⟩) ?_
   obtain⟨a1,ea,_,ha⟩:=rows.at ok.1
   obtain⟨a2,eb,_,hb⟩:=rows.at ok.2
   obtain⟨la,za⟩:=sz i ok.1
   obtain⟨lb,zb⟩:=sz j ok.2
   have ci:=s1.at (i:=i) ⟨ok.1.1,by have:=ok.1.2; omega⟩
   have cj:=s1.at (i:=j) ⟨ok.2.1,by have:=ok.2.2; omega⟩
   refine zho (n:=a1) (n':=a2) (S1:=S) (xs:=(sl.getD i.toNat []).map frD) (ys:=(sl.getD j.toNat []).map frD) (fun x y=>match x,y with | .tup [.int a,.int b],.tup [.int c,.int d]=>.tup [.int (a - d),.int (b - c)] | _,_=>.non) (fun K hK=>by
    refine za7 (n:=n) (fun K hK=>by exact hK) hn rfl ?_
    refine zaD (o:=.lst ds) hs ea ?_
    refine za7 (n:=n) (fun K hK=>by exact hK) hn rfl ?_
    exact zaD (o:=.lst ds) hs eb hK) ha hb (by rw[List.length_map,la]; omega) (fun k x y hx hy S2 K pr hK=>?_) ?_
   ·rw[List.getElem?_map] at hx hy
    obtain⟨p,hp,rfl⟩:=Option.map_eq_some_iff.mp hx
    obtain⟨r,hr,rfl⟩:=Option.map_eq_some_iff.mp hy
    have kq:k < q:=by
     have:=(List.getElem?_eq_some_iff.mp hp).1
     omega
    have e1:gs sl i k=p:=by
     unfold gs
     rw[List.getD_eq_getElem?_getD,hp]
     rfl
    have e2:gs sl j k=r:=by
     unfold gs
     rw[List.getD_eq_getElem?_getD,hr]
     rfl
    have z1:=za k kq
    have z2:=zb k kq
    rw[e1] at z1
    rw[e2] at z2
    refine zou (n:=n) (fs:=[("one",.int i),("other",.int j)]) (fun K hK=>by exact hK) (pr _ _ hn) rfl ?_
    exact hK
   ·refine fin _ ?_
    rw[List.zipWith_map]
    unfold zbf
    rw[List.map_map]
    rw[zm8 _ _ _ la lb]
    rfl
  ·exact h.elim⟩)
def zsN  (zaf:zbA K mg)(zln:Dm K zaf.C "slope_of_both" "Times.slope_of_both" zju zhL)(zb3:Fk P w K mg base 1 "add_spans" zdc zde)(zch:Fk P w K mg base 2 "mul_spans" zdx zdK):Fm P w K mg base 3 zaf.C "slope_of_both" zhL (zh5 zaf.C):=
 zln.mk' (zau (k:=2) zln.F zvF (zyf zaf.C) fun cdv A outer s H E hr=>⟨_,(zah (zap (zan zb3 hr (zaa (zan zch hr (zaa (dv 1) (zaa (dv 4) (zaa (dv 5) zab)))) (zaa (zan zch hr (zaa (dv 2) (zaa (dv 3) (zaa (dv 5) zab)))) zab))))),fun ds S Q ex h=>by
  unfold zh5 at h
  split at h
  ·rename_i x1 x2 y1 y2 a b c d g
   obtain⟨⟨h1,h2,h3,h4,h5,h6,h7,h8,g1,g2⟩,h⟩:=h
   have sg:Sz 21 g:=Sz.of 1000000 (by omega)
   refine⟨⟨⟨zaR h1 h7,zaR h1 h8,zaR h2 h7,zaR h2 h8⟩,sg.fd (by omega)⟩,fun mn mx hc=>?_⟩
   obtain⟨rfl,rfl⟩:=hc.eq
   refine⟨⟨⟨zaR h3 h5,zaR h3 h6,zaR h4 h5,zaR h4 h6⟩,sg.fd (by omega)⟩,fun mn mx hc=>?_⟩
   obtain⟨rfl,rfl⟩:=hc.eq
   exact h
  ·exact h.elim⟩)
def zxZ  (zaf:zbA K mg)(zak:zbH K mg)(zal:zbP K mg)(zae:zbC K mg)(zad:zbD K mg)(zag:zbL K mg)(zlA:Dm K zaf.C "slope" "Pair.slope" zht zfZ)(zgR:Fm P w K mg base 3 zaf.C "slope_of_both" zhL (zh5 zaf.C))(zbk:mg "zip"=none):Fm P w K mg base 4 zaf.C "slope" zfZ (zfl zak.C zal.C zae.C zad.C zaf.C zag.C):=
 zlA.mk' (zau (k:=3) zlA.F znZ (zvC zak.C zal.C zae.C zad.C zaf.C zag.C) fun cdv A outer s H E hr=>⟨_,(zaj (zay (i:=5) znZ.nd rfl (Or.inr rfl) (zaF (dv 1) (za9 zaf.cl zaf.n_one (dv 0)) (fun _ _=>rfl))) (zaj (zay (i:=6) znZ.nd rfl (Or.inr rfl) (zaF (dv 1) (za9 zaf.cl zaf.n_other (dv 0)) (fun _ _=>rfl))) (zah (zap (zk9 (x1:="a") (x2:="b") (N:=["x","y","grid","self"]) (caps:=[5,6,4,0]) (ar:=zao zht) rfl rfl zcW rfl rfl rfl (by decide) rfl zbk Boot.«zip» (zaa (zaF (dv 2) (za9 zaf.cl zaf.n_one (dv 0)) (fun _ _=>rfl)) (zaa (zaF (dv 2) (za9 zaf.cl zaf.n_other (dv 0)) (fun _ _=>rfl)) zab)) (fun _ _ _ _ _ _=>(zns (C:=zaf.C) (dv 5) zaf.cl zgR.m zgR.ok (hr.mono (by decide)) zgR.b zfQ (zaa (dv 2) (zaa (dv 3) (zaa (dv 0) (zaa (dv 1) (zaa (dv 4) zab)))))))))))),fun ds S Q ex h=>by
  unfold zfl at h
  split at h
  ·rename_i n w s qi g
   obtain⟨i,j,q,vs,sl,ds,hn,hw,hs,rows,sz,⟨rfl,hq⟩,ok,lv,s1,hg,h⟩:=h
   have sg:Sz 21 g:=Sz.of 1000000 (by omega)
   have fin:∀ys:List D,ys=(zbf vs sl g q (Nd.times i j)).map frD→Q (.ref S.length) (S++[.lst ys]):=fun ys e=>by
    subst e
    exact h _ _ Pre.refl.push (by simp) (zax _ _)
   refine za7 (n:=n) (fun K hK=>by exact hK) hn rfl ?_
   refine zaD (o:=.lst (vs.map frD)) hw (za4 (i:=i) ⟨ok.1.1,by have:=ok.1.2; omega⟩) ?_
   refine za7 (n:=n) (fun K hK=>by exact hK) hn rfl ?_
   refine zaD (o:=.lst (vs.map frD)) hw (za4 (i:=j) ⟨ok.2.1,by have:=ok.2.2; omega⟩) ?_
   obtain⟨a1,ea,_,ha⟩:=rows.at ok.1
   obtain⟨a2,eb,_,hb⟩:=rows.at ok.2
   obtain⟨la,za⟩:=sz i ok.1
   obtain⟨lb,zb⟩:=sz j ok.2
   have ci:=s1.at (i:=i) ⟨ok.1.1,by have:=ok.1.2; omega⟩
   have cj:=s1.at (i:=j) ⟨ok.2.1,by have:=ok.2.2; omega⟩
   refine zho (n:=a1) (n':=a2) (S1:=S) (xs:=(sl.getD i.toNat []).map frD) (ys:=(sl.getD j.toNat []).map frD) (fun x y=>match x,y with | .tup [.int a,.int b],.tup [.int c,.int d]=>.tup [.int ((zaV (gt vs i) (c,d) g).1 + (zaV (gt vs j) (a,b) g).1),.int ((zaV (gt vs i) (c,d) g).2 + (zaV (gt vs j) (a,b) g).2)] | _,_=>.non) (fun K hK=>by
    refine za7 (n:=n) (fun K hK=>by exact hK) hn rfl ?_
    refine zaD (o:=.lst ds) hs ea ?_
    refine za7 (n:=n) (fun K hK=>by exact hK) hn rfl ?_
    exact zaD (o:=.lst ds) hs eb hK) ha hb (by rw[List.length_map,la]; omega) (fun k x y hx hy S2 K pr hK=>?_) ?_
   ·rw[List.getElem?_map] at hx hy
    obtain⟨p,hp,rfl⟩:=Option.map_eq_some_iff.mp hx
    obtain⟨r,hr,rfl⟩:=Option.map_eq_some_iff.mp hy
    have kq:k < q:=by
     have:=(List.getElem?_eq_some_iff.mp hp).1
     omega
    have e1:gs sl i k=p:=by
     unfold gs
     rw[List.getD_eq_getElem?_getD,hp]
     rfl
    have e2:gs sl j k=r:=by
     unfold gs
     rw[List.getD_eq_getElem?_getD,hr]
     rfl
    have z1:=za k kq
    have z2:=zb k kq
    rw[e1] at z1
    rw[e2] at z2
    refine zou (n:=n) (fs:=[("one",.int i),("other",.int j)]) (fun K hK=>by exact hK) (pr _ _ hn) rfl ?_
    exact⟨⟨ci.2.1.mono (by decide),ci.2.2.mono (by decide),cj.2.1.mono (by decide),cj.2.2.mono (by decide),z1.2.1.mono (by decide),z1.2.2.mono (by decide),z2.2.1.mono (by decide),z2.2.2.mono (by decide),hg.1,hg.2⟩,hK⟩
   ·refine fin _ ?_
    rw[List.zipWith_map]
    unfold zbf
    rw[List.map_map]
    rw[zm8 _ _ _ la lb]
    rfl
  ·exact h.elim⟩)
def zt5  (zmf:Df K mg "scale_span" zmI zib)(zbI:mg "max"=none)(zce:mg "min"=none):Fk P w K mg base 1 "scale_span" zib zh0:=
 zmf.mk' (zau (k:=0) zmf.F zwC (ztr) fun cdv A outer s H E hr=>⟨_,(zah (zap (za1 (zaa (zaP (zox rfl) rfl zce Boot.«min» (zaa (zam zaZ (zas (dv 0) zac (fun _ _=>rfl)) (dv 1)) (zaa (zam zaZ (zas (dv 0) zac (fun _ _=>rfl)) (dv 1)) zab))) (zaa (zaP (zjM rfl) rfl zbI Boot.«max» (zaa (zam zaZ (zas (dv 0) zac (fun _ _=>rfl)) (dv 1)) (zaa (zam zaZ (zas (dv 0) zac (fun _ _=>rfl)) (dv 1)) zab))) zab))))),fun ds S Q ex h=>by
  unfold zh0 at h
  split at h
  ·obtain⟨⟨h1,h2⟩,h⟩:=h
   exact⟨h1,h2,h1,h2,h⟩
  ·exact h.elim⟩)
def zuF  (zag:zbL K mg)(zak:zbH K mg)(zal:zbP K mg)(zae:zbC K mg)(zad:zbD K mg)(zaf:zbA K mg)(zkW:Dm K zag.C "slope" "Power.slope" zig zgi)(zch:Fk P w K mg base 2 "mul_spans" zdx zdK)(zn2:Fk P w K mg base 1 "scale_span" zib zh0)(zfk:Fk P w K mg base 2 "raise_span" zeL zeZ):Fm P w K mg base 3 zag.C "slope" zgi (zeR zak.C zal.C zae.C zad.C zaf.C zag.C):=
 zkW.mk' (zau (k:=2) zkW.F znN (zt4 zak.C zal.C zae.C zad.C zaf.C zag.C) fun cdv A outer s H E hr=>⟨_,(zaj (zay (i:=5) znN.nd rfl (Or.inl rfl) (zan zfk hr (zaa (zaF (dv 1) (za9 zag.cl zag.n_one (dv 0)) (fun _ _=>rfl)) (zaa (zam zdE (za9 zag.cl zag.n_many (dv 0)) zac) (zaa (dv 4) zab))))) (zaj (zay (i:=6) znN.nd rfl (Or.inr rfl) (zan zn2 hr (zaa (dv 5) (zaa (za9 zag.cl zag.n_many (dv 0)) zab)))) (zah (zap (zdd (x:="a") (N:=["steep","grid"]) (caps:=[6,4]) (ar:=zao zig) rfl rfl csc rfl (by decide) (zaF (dv 2) (za9 zag.cl zag.n_one (dv 0)) (fun _ _=>rfl)) (fun _ _ _ _ _ _=>zb9) (fun _ _ _ _ _ _=>(zan zch hr (zaa (dv 1) (zaa (dv 0) (zaa (dv 2) zab)))))))))),fun ds S Q ex h=>by
  unfold zeR at h
  split at h
  ·rename_i n w s qi g
   obtain⟨i,m,q,vs,sl,ds,hn,hw,hs,rows,sz,⟨rfl,hq⟩,ok,lv,s1,hg,h⟩:=h
   have sg:Sz 21 g:=Sz.of 1000000 (by omega)
   have fin:∀ys:List D,ys=(zbf vs sl g q (Nd.power i m)).map frD→Q (.ref S.length) (S++[.lst ys]):=fun ys e=>by
    subst e
    exact h _ _ Pre.refl.push (by simp) (zax _ _)
   obtain⟨a1,ea,_,ha⟩:=rows.at ok.1
   obtain⟨la,za⟩:=sz i ok.1
   have ci:=s1.at (i:=i) ⟨ok.1.1,by have:=ok.1.2; omega⟩
   obtain⟨ok1,m2,m6⟩:=ok
   refine za7 (n:=n) (fun K hK=>by exact hK) hn rfl ?_
   refine zaD (o:=.lst (vs.map frD)) hw (za4 (i:=i) ⟨ok1.1,by have:=ok1.2; omega⟩) ?_
   refine za7 (n:=n) (fun K hK=>by exact hK) hn rfl ?_
   refine⟨⟨by omega,by omega,ci.2.1.mono (by decide),ci.2.2.mono (by decide),hg.1,sg.mono (by decide)⟩,fun m' M' hP=>?_⟩
   obtain⟨rfl,rfl⟩:=hP.eq (by omega)
   have gp:(1:Int)≤g ^ ((m - 1).toNat - 1):=Int.pow_pos (by omega)
   have lo:=zfO gp (zni (gt vs i).1 (gt vs i).2 (m - 1).toNat)
   have fl:=zsd (gt vs i) (n:=m) (by omega) hg.1
   have p1:Sz 6000 ((gt vs i).1 ^ (m - 1).toNat):=(ci.2.1.pow _).mono (by omega)
   have p2:Sz 6000 ((gt vs i).2 ^ (m - 1).toNat):=(ci.2.2.pow _).mono (by omega)
   have pl:Sz 6000 (zaL (gt vs i).1 (gt vs i).2 (m - 1).toNat):=by
    unfold zaL
    split
    ·exact Nat.pow_pos (by decide)
    ·exact zdi p1 p2
   have sm:Sz 10 m:=Sz.of 6 (by omega)
   refine za7 (n:=n) (fun K hK=>by exact hK) hn rfl ?_
   refine⟨⟨zaR (pl.div gp) sm,zaR (zev (zc0 p1 p2) gp) sm⟩,?_⟩
   have e1:(if -(-za0 (gt vs i).1 (gt vs i).2 (m - 1).toNat / g ^ ((m - 1).toNat - 1)) * m < zaL (gt vs i).1 (gt vs i).2 (m - 1).toNat / g ^ ((m - 1).toNat - 1) * m then -(-za0 (gt vs i).1 (gt vs i).2 (m - 1).toNat / g ^ ((m - 1).toNat - 1)) * m else zaL (gt vs i).1 (gt vs i).2 (m - 1).toNat / g ^ ((m - 1).toNat - 1) * m)=(zbs (gt vs i) m g).1:=by
    rw[if_neg (by have z:(zbs (gt vs i) m g).1≤(zbs (gt vs i) m g).2:=fl; exact Int.not_lt.mpr z)]
    rfl
   have e2:(if -(-za0 (gt vs i).1 (gt vs i).2 (m - 1).toNat / g ^ ((m - 1).toNat - 1)) * m > zaL (gt vs i).1 (gt vs i).2 (m - 1).toNat / g ^ ((m - 1).toNat - 1) * m then -(-za0 (gt vs i).1 (gt vs i).2 (m - 1).toNat / g ^ ((m - 1).toNat - 1)) * m else zaL (gt vs i).1 (gt vs i).2 (m - 1).toNat / g ^ ((m - 1).toNat - 1) * m)=(zbs (gt vs i) m g).2:=by
    split
    ·rfl
    ·rename_i c
     have z:¬ (zbs (gt vs i) m g).1 < (zbs (gt vs i) m g).2:=c
     have z2:(zbs (gt vs i) m g).1=(zbs (gt vs i) m g).2:=by omega
     exact z2
   rw[e1,e2]
   have f1:Sz 6010 (zbs (gt vs i) m g).1:=zi5 (e:=10) (pl.div gp) (by omega) (by omega)
   have f2:Sz 6010 (zbs (gt vs i) m g).2:=zi5 (e:=10) (zev (zc0 p1 p2) gp) (by omega) (by omega)
   generalize hfc:zbs (gt vs i) m g=fc at f1 f2
   refine zdI (n:=a1) (S1:=S) (o:=.lst ((sl.getD i.toNat []).map frD)) (fun x=>match x with | .tup [.int a,.int b]=>frD (zaV fc (a,b) g) | _=>.non) (fun K hK=>by
    refine za7 (n:=n) (fun K hK=>by exact hK) hn rfl ?_
    exact zaD (o:=.lst ds) hs ea hK) ha (by show ((sl.getD i.toNat []).map frD).length≤1000; rw[List.length_map,la]; omega) (fun x hx S2 K pr hK=>?_) ?_
   ·have hx':x∈(sl.getD i.toNat []).map frD:=hx
    obtain⟨p,hp,rfl⟩:=List.mem_map.mp hx'
    obtain⟨k,hk,ek⟩:=List.mem_iff_getElem.mp hp
    have z1:=za k (by omega)
    have e1:gs sl i k=p:=by
     unfold gs
     rw[List.getD_eq_getElem?_getD,List.getElem?_eq_getElem hk,ek]
     rfl
    rw[e1] at z1
    refine⟨⟨⟨zaR f1 z1.2.1,zaR f1 z1.2.2,zaR f2 z1.2.1,zaR f2 z1.2.2⟩,sg.fd (by omega)⟩,fun mn mx hc=>?_⟩
    obtain⟨rfl,rfl⟩:=hc.eq
    exact hK
   ·refine fin _ ?_
    show ((sl.getD i.toNat []).map frD).map _=_
    rw[List.map_map,zwj _ _ la]
    unfold zbf
    rw[List.map_map]
    subst hfc
    rfl
  ·exact h.elim⟩)
def ztL  (zag:zbL K mg)(zaf:zbA K mg)(zad:zbD K mg)(zae:zbC K mg)(zal:zbP K mg)(zak:zbH K mg)(ziM:Df K mg "slopes" zlz zgW)(znF:Fm P w K mg base 3 zag.C "slope" zgi (zeR zak.C zal.C zae.C zad.C zaf.C zag.C))(znj:Fm P w K mg base 4 zaf.C "slope" zfZ (zfl zak.C zal.C zae.C zad.C zaf.C zag.C))(zon:Fm P w K mg base 3 zad.C "slope" zgN (zez zak.C zal.C zae.C zad.C zaf.C zag.C))(znc:Fm P w K mg base 3 zae.C "slope" zgX (zfH zak.C zal.C zae.C zad.C zaf.C zag.C))(znu:Fm P w K mg base 1 zal.C "slope" zgy (zeT zak.C zal.C zae.C zad.C zaf.C zag.C))(znJ:Fm P w K mg base 1 zak.C "slope" zia (zfr zak.C zal.C zae.C zad.C zaf.C zag.C))(ze3:Fk P w K mg base 3 "kind_of" ze6 (zfy zak.C zal.C zae.C zad.C zaf.C zag.C))(zdm:Fk P w K mg base 4 "worths" zd4 zeo)(zaA:mg "len"=none):Fk P w K mg base 5 "slopes" zgW zil:=
 ziM.mk' (zau (k:=4) ziM.F zlx (zrU) fun cdv A outer s H E hr=>⟨_,(zaj (zay (i:=3) zlx.nd rfl (Or.inl rfl) (zan zdm hr (zaa (dv 0) (zaa (dv 1) (zaa (dv 2) zab))))) (zaj (zay (i:=4) zlx.nd rfl (Or.inl rfl) (zcf zab)) (zaj (zmj (i:=5) PassesOwn.never rfl zlx.nd rfl (Or.inl rfl) (dv 0) (zah (zcU (zcM (dv 4) (zqG (zan ze3 hr (zaa (dv 5) zab)) (zcw zak.cl znJ (hr.mono (by decide)) (zcw zal.cl znu (hr.mono (by decide)) (zcw zae.cl znc (hr.mono (by decide)) (zcw zad.cl zon (hr.mono (by decide)) (zcw zaf.cl znj (hr.mono (by decide)) (zcw zag.cl znF (hr.mono (by decide)) zpD)))))) zfQ (zaa (dv 3) (zaa (dv 4) (zaa (zaP (zaK zbi) rfl zaA Boot.«len» (zaa (dv 1) zab)) (zaa (dv 2) zab))))))))) (zah (zap (dv 4)))))),fun ds S Q ex h=>by
  unfold zil at h
  split at h
  ·rename_i a b g
   obtain⟨ns,ws,bs,ha,hb,net,sb,hq9,hg,hl,h⟩:=h
   have disp:∀v:Nd,∃C fs sd,v.ob zak.C zal.C zae.C zad.C zaf.C zag.C=.ins C fs∧(C,sd)∈[(zak.C,zfr zak.C zal.C zae.C zad.C zaf.C zag.C),(zal.C,zeT zak.C zal.C zae.C zad.C zaf.C zag.C),(zae.C,zfH zak.C zal.C zae.C zad.C zaf.C zag.C),(zad.C,zez zak.C zal.C zae.C zad.C zaf.C zag.C),(zaf.C,zfl zak.C zal.C zae.C zad.C zaf.C zag.C),(zag.C,zeR zak.C zal.C zae.C zad.C zaf.C zag.C)]∧fs.lookup ("slope":Str)=none∧∀(n w s:Nat) (q:Nat) (g:Int) (S:Sto) (Q:DK) (ex:Addr→Sto→Prop) (vs:List (Int×Int)) (sl:List (List (Int×Int))) (ds:List D),S[n]?=some (v.ob zak.C zal.C zae.C zad.C zaf.C zag.C)→S[w]?=some (.lst (vs.map frD))→S[s]?=some (.lst ds)→zaX S 0 ds sl→(∀i:Int,inR sl.length i→(sl.getD i.toNat []).length=q∧∀l,l < q→(gs sl i l).1≤(gs sl i l).2∧Sz 1100 (gs sl i l).1∧Sz 1100 (gs sl i l).2)→q≤900→v.ok sl.length q→sl.length≤vs.length→Spn 1000 vs→(1≤g∧g≤1000000)→(∀(T:Sto) (m:Nat),Pre S T→S.length≤m→T[m]?=some (.lst ((zbf vs sl g q v).map frD))→Q (.ref m) T)→sd [.ref n,.ref w,.ref s,.int (q:Nat),.int g] S Q ex:=by
    intro v
    cases v with
    | number x y=>exact⟨_,_,_,rfl,(.head _),rfl,fun n w s q g S Q ex vs sl ds a1 a2 a3 a4 a5 a6 a7 a8 a9 b1 b2=>⟨x,y,q,vs,sl,ds,a1,a2,a3,a4,a5,⟨rfl,a6⟩,a7,a8,a9,b1,b2⟩⟩
    | unknown k=>exact⟨_,_,_,rfl,(.tail _ (.head _)),rfl,fun n w s q g S Q ex vs sl ds a1 a2 a3 a4 a5 a6 a7 a8 a9 b1 b2=>⟨k,q,vs,sl,ds,a1,a2,a3,a4,a5,⟨rfl,a6⟩,a7,a8,a9,b1,b2⟩⟩
    | plus i j=>exact⟨_,_,_,rfl,(.tail _ (.tail _ (.head _))),rfl,fun n w s q g S Q ex vs sl ds a1 a2 a3 a4 a5 a6 a7 a8 a9 b1 b2=>⟨i,j,q,vs,sl,ds,a1,a2,a3,a4,a5,⟨rfl,a6⟩,a7,a8,a9,b1,b2⟩⟩
    | minus i j=>exact⟨_,_,_,rfl,(.tail _ (.tail _ (.tail _ (.head _)))),rfl,fun n w s q g S Q ex vs sl ds a1 a2 a3 a4 a5 a6 a7 a8 a9 b1 b2=>⟨i,j,q,vs,sl,ds,a1,a2,a3,a4,a5,⟨rfl,a6⟩,a7,a8,a9,b1,b2⟩⟩
    | times i j=>exact⟨_,_,_,rfl,(.tail _ (.tail _ (.tail _ (.tail _ (.head _))))),rfl,fun n w s q g S Q ex vs sl ds a1 a2 a3 a4 a5 a6 a7 a8 a9 b1 b2=>⟨i,j,q,vs,sl,ds,a1,a2,a3,a4,a5,⟨rfl,a6⟩,a7,a8,a9,b1,b2⟩⟩
    | power i m=>exact⟨_,_,_,rfl,(.tail _ (.tail _ (.tail _ (.tail _ (.tail _ (.head _)))))),rfl,fun n w s q g S Q ex vs sl ds a1 a2 a3 a4 a5 a6 a7 a8 a9 b1 b2=>⟨i,m,q,vs,sl,ds,a1,a2,a3,a4,a5,⟨rfl,a6⟩,a7,a8,a9,b1,b2⟩⟩
   refine⟨ns,ws,bs,ha,hb,net,sb,hg,hl,fun T1 w pr1 lw hw=>?_⟩
   have szw:=zqK net rfl sb hg
   have lf:(zar bs g ns).length=ns.length:=zcB _ _ _
   have spn:Spn 1000 (zar bs g ns):=szw.spn fun k hk=>by
    have z:=(net.w1 (i:=(k:Int)) ⟨by omega,by omega⟩).2
    rwa [Int.toNat_natCast] at z
   refine zlt (n:=a) (o:=.lst (ns.map Nd.d)) (fun k dl' S'=>k≤ns.length∧Pre T1 S'∧(∃ds:List D,S'[T1.length]?=some (.lst ds)∧zaX S' (T1.length + 1) ds (zaM (zar bs g ns) g bs.length (ns.take k)))∧∃u:Option D,dl'=[some (.ref a),some (.ref b),some (.int g),some (.ref w),some (.ref T1.length),u]) ⟨Nat.zero_le _,Pre.refl.push,⟨[],zax _ _,zaX.nil⟩,_,rfl⟩ (fun k dl' S' z=>z.2.1 _ _ (pr1 _ _ ha)) ?_ ?_
   ·rintro k x dl' S' nx ct ex' ⟨hk,pr,⟨ds,hf,rows⟩,u,rfl⟩ hn
    have ex2:(ns.map Nd.d)[k]?=some x:=ex'
    rw[List.getElem?_map] at ex2
    obtain⟨v,hv,rfl⟩:=Option.map_eq_some_iff.mp ex2
    have hk':=(List.getElem?_eq_some_iff.mp hv).1
    have ln:(zaM (zar bs g ns) g bs.length (ns.take k)).length=k:=by rw[zeV,List.length_take]; omega
    have okv:v.ok (zaM (zar bs g ns) g bs.length (ns.take k)).length bs.length:=by rw[ln]; exact(net.ok k v hv).1
    have slw:=zpF net szw lf hg k hk
    have ss:=slw.spn fun i hi=>by
     have z:=(net.w1 (i:=(i:Int)) ⟨by omega,by omega⟩).2
     rwa [Int.toNat_natCast] at z
    obtain⟨C,fs,sd,eo,hm,hf2,go⟩:=disp v
    have N1:=zax S' (v.ob zak.C zal.C zae.C zad.C zaf.C zag.C)
    have ld:ds.length=k:=by rw[rows.1,ln]
    have lt:=zbh hf
    refine zf5 (n:=T1.length) (xs:=ds) (fun K hK=>by exact hK) hf (fun K hK=>?_) (by omega)
    refine zpu (n:=S'.length) (C:=C) (sd:=sd) (fs:=fs) (S1:=S'++[v.ob zak.C zal.C zae.C zad.C zaf.C zag.C]) (fun K hK=>⟨v,rfl,by exact hK⟩) (by rw[← eo]; exact N1) hm hf2 ?_
    refine zbp (zaz (pr _ _ (pr1 _ _ hb))) ?_
    rw[List.length_map]
    refine go _ _ _ bs.length _ _ _ _ (zar bs g ns) (zaM (zar bs g ns) g bs.length (ns.take k)) ds N1 (zaz (pr _ _ hw)) (zaz hf) ((rows.low (Nat.zero_le _)).pre (zcs Pre.refl _)) ss hq9 okv (by omega) spn hg fun T m prT lm hT=>?_
    have hf3:=prT _ _ (zaz hf)
    refine hK _ _ hf3 ?_
    have lS:(S'++[v.ob zak.C zal.C zae.C zad.C zaf.C zag.C]).length=S'.length + 1:=by simp
    have rows3:zaX T (T1.length + 1) ds (zaM (zar bs g ns) g bs.length (ns.take k)):=rows.pre fun i o e=>prT _ _ (zaz e)
    refine hn _ _ ⟨by omega,zhJ (pr.trans fun i o e=>prT _ _ (zaz e)) (Nat.le_refl _),⟨ds++[.ref m],zcv hf3,?_⟩,_,rfl⟩
    rw[zbT hv,zmy]
    have r4:=rows3.snoc (a:=m) (r:=zbf (zar bs g ns) (zaM (zar bs g ns) g bs.length (ns.take k)) g bs.length v) (by omega) hT
    exact r4.keep fun x o hx e=>zcA e (by omega)
   ·rintro dl' S' ⟨hk,pr,⟨ds,hf,rows⟩,u,rfl⟩
    have e:ns.take (zai (.lst (ns.map Nd.d))).length=ns:=by
     show ns.take (ns.map Nd.d).length=ns
     rw[List.length_map,List.take_length]
    rw[e] at rows
    refine h _ _ ds (pr1.trans pr) ?_ hf rows
    exact zdy pr1
  ·exact h.elim⟩)
def zrO  (zj5:Df K mg "slopes_at" zmK zgj)(zfx:Fk P w K mg base 1 "picked" zeQ zfN)(znU:Fk P w K mg base 5 "slopes" zgW zil):Fk P w K mg base 6 "slopes_at" zgj zhf:=
 zj5.mk' (zau (k:=5) zj5.F zwD (zxs) fun cdv A outer s H E hr=>⟨_,(zah (zap (zan zfx hr (zaa (zan znU hr (zaa (dv 0) (zaa (dv 2) (zaa (dv 3) zab)))) (zaa (dv 1) zab))))),fun ds S Q ex h=>by
  unfold zhf at h
  split at h
  ·rename_i a p b g
   obtain⟨ns,ws,bs,is,ha,hb,net,sb,hg,l7,b9,hp,i9,hi,h⟩:=h
   refine⟨ns,ws,bs,ha,hb,net,sb,b9,hg,l7,fun T m ds pr lm hm rows=>?_⟩
   have ld:ds.length=ns.length:=by rw[rows.1,zeV]
   refine⟨ds,is,hm,pr _ _ hp,i9,fun i him=>by rw[ld]; exact hi i him,?_⟩
   refine h _ _ (is.map fun i=>ds.getD i .non) (fun x o z=>zaz (pr _ _ z)) (zdy pr) (zax _ _) ⟨by rw[List.length_map,List.length_map],fun k d r hd hr=>?_⟩
   rw[List.getElem?_map] at hd hr
   obtain⟨i,hik,rfl⟩:=Option.map_eq_some_iff.mp hd
   rw[hik] at hr
   cases hr
   have him:=hi i (List.mem_of_getElem? hik)
   have h1:ds[i]?=some (ds.getD i .non):=by rw[List.getElem?_eq_getElem (show i < ds.length by omega)]; simp[show i < ds.length by omega]
   have ls:=zeV (zar bs g ns) g bs.length ns
   have h2:(zaM (zar bs g ns) g bs.length ns)[i]?=some ((zaM (zar bs g ns) g bs.length ns).getD i []):=by rw[List.getElem?_eq_getElem (show i < (zaM (zar bs g ns) g bs.length ns).length by omega)]; simp[show i < (zaM (zar bs g ns) g bs.length ns).length by omega]
   obtain⟨q,eq,_,sq⟩:=rows.2 i _ _ h1 h2
   exact⟨q,eq,Nat.zero_le _,zaz sq⟩
  ·exact h.elim⟩)
def zxn  (ziG:Df K mg "signed" zji zdX):Fk P w K mg base 1 "signed" zdX zdD:=
 ziG.mk' (zau (k:=0) ziG.F zsH (zvf) fun cdv A outer s H E hr=>⟨_,(zah (zap (zod (zaO (zbe hr) (zam zbq (dv 1) zac) zac (zaE _)) (zoH znR (dv 0)) (dv 0)))),fun ds S Q ex h=>by
  unfold zdD at h
  split at h
  ·rename_i i k
   obtain⟨n,rfl,h⟩:=h
   refine ifD (fun e=>?_) (fun e=>?_)
   ·have z:sgn i n=-i:=by unfold sgn; rw[if_pos (by omega)]
    rw[z] at h
    exact h
   ·have z:sgn i n=i:=by unfold sgn; rw[if_neg (by omega)]
    rw[z] at h
    exact h
  ·exact h.elim⟩)
def zuz  (zkQ:Df K mg "without" zif zdW):Fk P w K mg base 1 "without" zdW zdR:=
 zkQ.mk' (zau (k:=0) zkQ.F zpi (zt9) fun cdv A outer s H E hr=>⟨_,(zaj (zay (i:=3) zpi.nd rfl (Or.inl rfl) (zam zq2 (zgb (dv 0) zhB (zgl (dv 1))) (zgb (dv 0) (zgl (zam zba (dv 1) zac)) zhB))) (zah (zap (zdd (x:="entries") (N:=["column"]) (caps:=[2]) (ar:=zao zif) rfl rfl csc rfl (by decide) (dv 3) (fun _ _ _ _ _ _=>zb9) (fun _ _ _ _ _ _=>(zam zq2 (zgb (dv 0) zhB (zgl (dv 1))) (zgb (dv 0) (zgl (zam zba (dv 1) zac)) zhB))))))),fun ds S Q ex h=>by
  unfold zdR at h
  split at h
  ·rename_i m r c
   obtain⟨M,i,j,n,rfl,rfl,⟨ds,hm,rows⟩,sq,hn,hi,hj,h⟩:=h
   have lm:ds.length=n + 1:=by rw[rows.len]; exact sq.1
   refine zh9 (n:=m) (o:=.lst ds) (lo:=none) (hi:=some (i:Int)) (fun K hK=>by exact hK) (fun K hK=>by exact hK) (fun K hK=>by exact hK) hm ?_
   refine zh9 (n:=m) (o:=.lst ds) (lo:=some ((i + 1:Nat):Int)) (hi:=none) (fun K hK=>by exact hK) (fun K hK=>by exact hK) (fun K hK=>by exact hK) (zcQ hm) ?_
   dsimp only[zai]
   rw[zq0,zqQ]
   refine zpR (xs:=ds.take i) (ys:=ds.drop (i + 1)) (zcQ (zax _ _)) (zax _ _) (by simp; omega) ?_
   have p0:Pre S (S++[.lst (ds.take i)]++[.lst (ds.drop (i + 1))]++[.lst (ds.take i++ds.drop (i + 1))]):=Pre.refl.push.push.push
   have r0:Rows (S++[.lst (ds.take i)]++[.lst (ds.drop (i + 1))]++[.lst (ds.take i++ds.drop (i + 1))]) 0 (ds.take i++ds.drop (i + 1)) (M.take i++M.drop (i + 1)):=((rows.take i).app (rows.drop (i + 1))).pre p0
   refine zsh (n:=(S++[Ob.lst (ds.take i)]++[Ob.lst (ds.drop (i + 1))]).length) (fun e=>e.take j++e.drop (j + 1)) (fun K hK=>by exact hK) (zax _ _) r0 (by simp; omega) (fun a r S2 K hr ha hK=>?_) (fun S2 ys p2 e2 r2=>?_)
   ·have lr:r.length≤n + 1:=by
     have z:=sq.2 r ((List.mem_append.mp hr).elim List.mem_of_mem_take List.mem_of_mem_drop)
     omega
    show dOp (zbE zid) (zfi (zcz 0) zny (znQ (zcz 1))) (zfi (zcz 0) (znQ (dOp wAdd (zcz 1) (dC (D.int 1)))) zny) [some (.ref a),some (.int (j:Int))] S2 K
    simp only[dOp]
    refine zh9 (n:=a) (o:=.lst (r.map D.int)) (lo:=none) (hi:=some (j:Int)) (fun K hK=>by exact hK) (fun K hK=>by exact hK) (fun K hK=>by exact hK) ha ?_
    refine zh9 (n:=a) (o:=.lst (r.map D.int)) (lo:=some ((j + 1:Nat):Int)) (hi:=none) (fun K hK=>by exact hK) (fun K hK=>by exact hK) (fun K hK=>by exact hK) (zcQ ha) ?_
    dsimp only[zai]
    rw[zq0,zqQ]
    refine zpR (xs:=(r.map D.int).take j) (ys:=(r.map D.int).drop (j + 1)) (zcQ (zax _ _)) (zax _ _) (by simp; omega) ?_
    refine hK _ _ Pre.refl.push.push.push (by simp) ?_
    rw[List.map_append,List.map_take,List.map_drop]
    exact zax _ _
   ·exact h S2 _ (p0.trans p2) ⟨ys,e2,r2⟩
  ·exact h.elim⟩)
def zxh (zbr:Df K mg "determinant" zcn zbK)(zcc:Fk P w K mg base 0 "cofactor" zbQ zoN)(zbu:mg "sum"=none)(zbm:mg "enumerate"=none)(zaA:mg "len"=none):Fk P w K mg base 1 "determinant" zbK zg3:=
 zbr.mk' (zb0 (zau (k:=0) zbr.F zhl (zbV zvq) fun cdv A outer s H E hr=>⟨_,(zaj (zaS (zaO (zbe hr) (zaP (zaK zbi) rfl zaA Boot.«len» (zaa (dv 0) zab)) zac (zaE _)) (zah (zap zac)) zaT) (zah (zap (zaP (zaK (zgL rfl)) rfl zbu Boot.«sum» (zaa (zfa (x1:="column") (x2:="entry") (N:=["matrix"]) (caps:=[0]) (ar:=zao zcn) rfl rfl zcW rfl rfl rfl (by decide) rfl zbm Boot.«enumerate» (zaa (zas (dv 0) zac (fun _ _=>rfl)) zab) (fun _ _ _ _ _ _=>(zam zaZ (dv 1) (zan zcc hr (zaa (dv 2) (zaa zac (zaa (dv 0) zab))))))) zab))))),fun ds S Q ex h=>by
  obtain⟨Q0,ex0,rfl,rfl,h⟩:=h
  unfold zg3 at h
  split at h
  ·rename_i m
   obtain⟨M,n,hn,⟨ds,hm,rows⟩,sq,big,h⟩:=h
   have lm:ds.length=n:=by rw[rows.len]; exact sq.1
   refine zbp hm ?_
   refine ifD (fun e=>?_) (fun e=>?_)
   ·have n0:n=0:=by omega
    subst n0
    exact⟨Pre.refl,.int _,h⟩
   ·exact absurd (show ((ds.length:Nat):Int)=0 by omega) e
  ·exact h.elim⟩))
def zrF (zbF:Df K mg "cofactor" zeu zbQ)(zcE:Fk P w K mg base 1 "signed" zdX zdD)(zcK:Fk P w K mg base 1 "determinant" zbK zg3)(zct:Fk P w K mg base 1 "without" zdW zdR):Fk P w K mg base 2 "cofactor" zbQ zfL:=
 zbF.mk' (zb0 (zau (k:=1) zbF.F zlQ (zbV zvW) fun cdv A outer s H E hr=>⟨_,(zah (zap (zan zcE hr (zaa (zan zcK hr (zaa (zan zct hr (zaa (dv 0) (zaa (dv 1) (zaa (dv 2) zab)))) zab)) (zaa (zam zba (dv 1) (dv 2)) zab))))),fun ds S Q ex h=>by
  obtain⟨Q0,ex0,rfl,rfl,h⟩:=h
  unfold zfL at h
  split at h
  ·rename_i m r c
   obtain⟨M,i,j,n,hn,rfl,rfl,hi,hj,hm,sq,big,h⟩:=h
   refine⟨M,i,j,n,rfl,rfl,hm,sq,by omega,hi,hj,fun T k pt mt=>?_⟩
   refine⟨za5 M i j,n,hn,mt,zdG sq hi hj,big.minor i j,?_⟩
   exact⟨i + j,by omega,pt,.int _,h⟩
  ·exact h.elim⟩))
def zuK (zbr:Df K mg "determinant" zcn zbK)(zcc:Fk P w K mg base 2 "cofactor" zbQ zfL)(zbu:mg "sum"=none)(zbm:mg "enumerate"=none)(zaA:mg "len"=none):Fk P w K mg base 3 "determinant" zbK zfY:=
 zbr.mk' (zb0 (zau (k:=2) zbr.F zhl (zbV zu4) fun cdv A outer s H E hr=>⟨_,(zaj (zaS (zaO (zbe hr) (zaP (zaK zbi) rfl zaA Boot.«len» (zaa (dv 0) zab)) zac (zaE _)) (zah (zap zac)) zaT) (zah (zap (zaP (zaK (zgL rfl)) rfl zbu Boot.«sum» (zaa (zfa (x1:="column") (x2:="entry") (N:=["matrix"]) (caps:=[0]) (ar:=zao zcn) rfl rfl zcW rfl rfl rfl (by decide) rfl zbm Boot.«enumerate» (zaa (zas (dv 0) zac (fun _ _=>rfl)) zab) (fun _ _ _ _ _ _=>(zam zaZ (dv 1) (zan zcc hr (zaa (dv 2) (zaa zac (zaa (dv 0) zab))))))) zab))))),fun ds S Q ex h=>by
  obtain⟨Q0,ex0,rfl,rfl,h⟩:=h
  unfold zfY at h
  split at h
  ·rename_i m
   obtain⟨M,n,hn,⟨ds,hm,rows⟩,sq,big,h⟩:=h
   have lm:ds.length=n:=by rw[rows.len]; exact sq.1
   refine zbp hm ?_
   refine ifD (fun e=>?_) (fun e=>?_)
   ·have n0:n=0:=by omega
    subst n0
    exact⟨Pre.refl,.int _,h⟩
   ·obtain⟨n,rfl⟩:∃k,n=k + 1:=⟨n - 1,by omega⟩
    obtain⟨r0,M',rfl⟩:∃r M',M=r::M':=by
     match M,sq.1 with
     | r::M',_=>exact⟨r,M',rfl⟩
    have lr:r0.length=n + 1:=sq.2 r0 (by simp)
    obtain⟨a,hd,_,ha⟩:=rows.get' (k:=0) (r:=r0) rfl
    refine zhV (n:=a) (xs:=r0.map D.int) (fun k d=>.int (r0.getD k 0 * sgn (zaI n (za5 (r0::M') 0 k)) k)) (fun K hK=>?_) ha (by simp; omega) (fun k x hx S2 K p2 hK=>?_) ?_
    ·show dOp wIx (zcz 0) (dC (D.int 0)) [some (.ref m)] S fun x S1=>K [x] S1
     exact zjF hm hd hK
    ·have hk:k < n + 1:=by
      have:=(List.getElem?_eq_some_iff.mp hx).1
      simpa [lr] using this
     obtain rfl:=zlJ hx
     show zfL [.ref m,.int 0,.int (k:Int)] S2 (fun y S3=>zf8 (.int (r0.getD k 0)) y S3 K) (fun _ _=>False)
     refine⟨r0::M',0,k,n,by omega,rfl,rfl,Nat.zero_le _,by omega,(show zbo S m (r0::M') from ⟨ds,hm,rows⟩).pre p2,sq,big,?_⟩
     refine⟨zki sq big (by omega) (by omega),?_⟩
     rw[Nat.zero_add]
     exact hK
    ·refine zmv (zax _ _) (zj9 n r0 M') ?_
     exact⟨Pre.refl.push,.int _,h⟩
  ·exact h.elim⟩))
def zxJ (zbF:Df K mg "cofactor" zeu zbQ)(zcE:Fk P w K mg base 1 "signed" zdX zdD)(zcK:Fk P w K mg base 3 "determinant" zbK zfY)(zct:Fk P w K mg base 1 "without" zdW zdR):Fk P w K mg base 4 "cofactor" zbQ zfK:=
 zbF.mk' (zb0 (zau (k:=3) zbF.F zlQ (zbV zsi) fun cdv A outer s H E hr=>⟨_,(zah (zap (zan zcE hr (zaa (zan zcK hr (zaa (zan zct hr (zaa (dv 0) (zaa (dv 1) (zaa (dv 2) zab)))) zab)) (zaa (zam zba (dv 1) (dv 2)) zab))))),fun ds S Q ex h=>by
  obtain⟨Q0,ex0,rfl,rfl,h⟩:=h
  unfold zfK at h
  split at h
  ·rename_i m r c
   obtain⟨M,i,j,n,hn,rfl,rfl,hi,hj,hm,sq,big,h⟩:=h
   refine⟨M,i,j,n,rfl,rfl,hm,sq,by omega,hi,hj,fun T k pt mt=>?_⟩
   refine⟨za5 M i j,n,hn,mt,zdG sq hi hj,big.minor i j,?_⟩
   exact⟨i + j,by omega,pt,.int _,h⟩
  ·exact h.elim⟩))
def zta (zbr:Df K mg "determinant" zcn zbK)(zcc:Fk P w K mg base 4 "cofactor" zbQ zfK)(zbu:mg "sum"=none)(zbm:mg "enumerate"=none)(zaA:mg "len"=none):Fk P w K mg base 5 "determinant" zbK zic:=
 zbr.mk' (zb0 (zau (k:=4) zbr.F zhl (zbV zsU) fun cdv A outer s H E hr=>⟨_,(zaj (zaS (zaO (zbe hr) (zaP (zaK zbi) rfl zaA Boot.«len» (zaa (dv 0) zab)) zac (zaE _)) (zah (zap zac)) zaT) (zah (zap (zaP (zaK (zgL rfl)) rfl zbu Boot.«sum» (zaa (zfa (x1:="column") (x2:="entry") (N:=["matrix"]) (caps:=[0]) (ar:=zao zcn) rfl rfl zcW rfl rfl rfl (by decide) rfl zbm Boot.«enumerate» (zaa (zas (dv 0) zac (fun _ _=>rfl)) zab) (fun _ _ _ _ _ _=>(zam zaZ (dv 1) (zan zcc hr (zaa (dv 2) (zaa zac (zaa (dv 0) zab))))))) zab))))),fun ds S Q ex h=>by
  obtain⟨Q0,ex0,rfl,rfl,h⟩:=h
  unfold zic at h
  split at h
  ·rename_i m
   obtain⟨M,n,hn,⟨ds,hm,rows⟩,sq,big,h⟩:=h
   have lm:ds.length=n:=by rw[rows.len]; exact sq.1
   refine zbp hm ?_
   refine ifD (fun e=>?_) (fun e=>?_)
   ·have n0:n=0:=by omega
    subst n0
    exact⟨Pre.refl,.int _,h⟩
   ·obtain⟨n,rfl⟩:∃k,n=k + 1:=⟨n - 1,by omega⟩
    obtain⟨r0,M',rfl⟩:∃r M',M=r::M':=by
     match M,sq.1 with
     | r::M',_=>exact⟨r,M',rfl⟩
    have lr:r0.length=n + 1:=sq.2 r0 (by simp)
    obtain⟨a,hd,_,ha⟩:=rows.get' (k:=0) (r:=r0) rfl
    refine zhV (n:=a) (xs:=r0.map D.int) (fun k d=>.int (r0.getD k 0 * sgn (zaI n (za5 (r0::M') 0 k)) k)) (fun K hK=>?_) ha (by simp; omega) (fun k x hx S2 K p2 hK=>?_) ?_
    ·show dOp wIx (zcz 0) (dC (D.int 0)) [some (.ref m)] S fun x S1=>K [x] S1
     exact zjF hm hd hK
    ·have hk:k < n + 1:=by
      have:=(List.getElem?_eq_some_iff.mp hx).1
      simpa [lr] using this
     obtain rfl:=zlJ hx
     show zfK [.ref m,.int 0,.int (k:Int)] S2 (fun y S3=>zf8 (.int (r0.getD k 0)) y S3 K) (fun _ _=>False)
     refine⟨r0::M',0,k,n,by omega,rfl,rfl,Nat.zero_le _,by omega,(show zbo S m (r0::M') from ⟨ds,hm,rows⟩).pre p2,sq,big,?_⟩
     refine⟨zki sq big (by omega) (by omega),?_⟩
     rw[Nat.zero_add]
     exact hK
    ·refine zmv (zax _ _) (zj9 n r0 M') ?_
     exact⟨Pre.refl.push,.int _,h⟩
  ·exact h.elim⟩))
def zvV (zbF:Df K mg "cofactor" zeu zbQ)(zcE:Fk P w K mg base 1 "signed" zdX zdD)(zcK:Fk P w K mg base 5 "determinant" zbK zic)(zct:Fk P w K mg base 1 "without" zdW zdR):Fk P w K mg base 6 "cofactor" zbQ zfp:=
 zbF.mk' (zb0 (zau (k:=5) zbF.F zlQ (zbV zxP) fun cdv A outer s H E hr=>⟨_,(zah (zap (zan zcE hr (zaa (zan zcK hr (zaa (zan zct hr (zaa (dv 0) (zaa (dv 1) (zaa (dv 2) zab)))) zab)) (zaa (zam zba (dv 1) (dv 2)) zab))))),fun ds S Q ex h=>by
  obtain⟨Q0,ex0,rfl,rfl,h⟩:=h
  unfold zfp at h
  split at h
  ·rename_i m r c
   obtain⟨M,i,j,n,hn,rfl,rfl,hi,hj,hm,sq,big,h⟩:=h
   refine⟨M,i,j,n,rfl,rfl,hm,sq,by omega,hi,hj,fun T k pt mt=>?_⟩
   refine⟨za5 M i j,n,hn,mt,zdG sq hi hj,big.minor i j,?_⟩
   exact⟨i + j,by omega,pt,.int _,h⟩
  ·exact h.elim⟩))
def zrl (zbr:Df K mg "determinant" zcn zbK)(zcc:Fk P w K mg base 6 "cofactor" zbQ zfp)(zbu:mg "sum"=none)(zbm:mg "enumerate"=none)(zaA:mg "len"=none):Fk P w K mg base 7 "determinant" zbK zg1:=
 zbr.mk' (zb0 (zau (k:=6) zbr.F zhl (zbV zuP) fun cdv A outer s H E hr=>⟨_,(zaj (zaS (zaO (zbe hr) (zaP (zaK zbi) rfl zaA Boot.«len» (zaa (dv 0) zab)) zac (zaE _)) (zah (zap zac)) zaT) (zah (zap (zaP (zaK (zgL rfl)) rfl zbu Boot.«sum» (zaa (zfa (x1:="column") (x2:="entry") (N:=["matrix"]) (caps:=[0]) (ar:=zao zcn) rfl rfl zcW rfl rfl rfl (by decide) rfl zbm Boot.«enumerate» (zaa (zas (dv 0) zac (fun _ _=>rfl)) zab) (fun _ _ _ _ _ _=>(zam zaZ (dv 1) (zan zcc hr (zaa (dv 2) (zaa zac (zaa (dv 0) zab))))))) zab))))),fun ds S Q ex h=>by
  obtain⟨Q0,ex0,rfl,rfl,h⟩:=h
  unfold zg1 at h
  split at h
  ·rename_i m
   obtain⟨M,n,hn,⟨ds,hm,rows⟩,sq,big,h⟩:=h
   have lm:ds.length=n:=by rw[rows.len]; exact sq.1
   refine zbp hm ?_
   refine ifD (fun e=>?_) (fun e=>?_)
   ·have n0:n=0:=by omega
    subst n0
    exact⟨Pre.refl,.int _,h⟩
   ·obtain⟨n,rfl⟩:∃k,n=k + 1:=⟨n - 1,by omega⟩
    obtain⟨r0,M',rfl⟩:∃r M',M=r::M':=by
     match M,sq.1 with
     | r::M',_=>exact⟨r,M',rfl⟩
    have lr:r0.length=n + 1:=sq.2 r0 (by simp)
    obtain⟨a,hd,_,ha⟩:=rows.get' (k:=0) (r:=r0) rfl
    refine zhV (n:=a) (xs:=r0.map D.int) (fun k d=>.int (r0.getD k 0 * sgn (zaI n (za5 (r0::M') 0 k)) k)) (fun K hK=>?_) ha (by simp; omega) (fun k x hx S2 K p2 hK=>?_) ?_
    ·show dOp wIx (zcz 0) (dC (D.int 0)) [some (.ref m)] S fun x S1=>K [x] S1
     exact zjF hm hd hK
    ·have hk:k < n + 1:=by
      have:=(List.getElem?_eq_some_iff.mp hx).1
      simpa [lr] using this
     obtain rfl:=zlJ hx
     show zfp [.ref m,.int 0,.int (k:Int)] S2 (fun y S3=>zf8 (.int (r0.getD k 0)) y S3 K) (fun _ _=>False)
     refine⟨r0::M',0,k,n,by omega,rfl,rfl,Nat.zero_le _,by omega,(show zbo S m (r0::M') from ⟨ds,hm,rows⟩).pre p2,sq,big,?_⟩
     refine⟨zki sq big (by omega) (by omega),?_⟩
     rw[Nat.zero_add]
     exact hK
    ·refine zmv (zax _ _) (zj9 n r0 M') ?_
     exact⟨Pre.refl.push,.int _,h⟩
  ·exact h.elim⟩))
def zwf (zbF:Df K mg "cofactor" zeu zbQ)(zcE:Fk P w K mg base 1 "signed" zdX zdD)(zcK:Fk P w K mg base 7 "determinant" zbK zg1)(zct:Fk P w K mg base 1 "without" zdW zdR):Fk P w K mg base 8 "cofactor" zbQ zd7:=
 zbF.mk' (zb0 (zau (k:=7) zbF.F zlQ (zbV zvn) fun cdv A outer s H E hr=>⟨_,(zah (zap (zan zcE hr (zaa (zan zcK hr (zaa (zan zct hr (zaa (dv 0) (zaa (dv 1) (zaa (dv 2) zab)))) zab)) (zaa (zam zba (dv 1) (dv 2)) zab))))),fun ds S Q ex h=>by
  obtain⟨Q0,ex0,rfl,rfl,h⟩:=h
  unfold zd7 at h
  split at h
  ·rename_i m r c
   obtain⟨M,i,j,n,hn,rfl,rfl,hi,hj,hm,sq,big,h⟩:=h
   refine⟨M,i,j,n,rfl,rfl,hm,sq,by omega,hi,hj,fun T k pt mt=>?_⟩
   refine⟨za5 M i j,n,hn,mt,zdG sq hi hj,big.minor i j,?_⟩
   exact⟨i + j,by omega,pt,.int _,h⟩
  ·exact h.elim⟩))
def zvj (zbr:Df K mg "determinant" zcn zbK)(zcc:Fk P w K mg base 8 "cofactor" zbQ zd7)(zbu:mg "sum"=none)(zbm:mg "enumerate"=none)(zaA:mg "len"=none):Fk P w K mg base 9 "determinant" zbK zhi:=
 zbr.mk' (zb0 (zau (k:=8) zbr.F zhl (zbV zsO) fun cdv A outer s H E hr=>⟨_,(zaj (zaS (zaO (zbe hr) (zaP (zaK zbi) rfl zaA Boot.«len» (zaa (dv 0) zab)) zac (zaE _)) (zah (zap zac)) zaT) (zah (zap (zaP (zaK (zgL rfl)) rfl zbu Boot.«sum» (zaa (zfa (x1:="column") (x2:="entry") (N:=["matrix"]) (caps:=[0]) (ar:=zao zcn) rfl rfl zcW rfl rfl rfl (by decide) rfl zbm Boot.«enumerate» (zaa (zas (dv 0) zac (fun _ _=>rfl)) zab) (fun _ _ _ _ _ _=>(zam zaZ (dv 1) (zan zcc hr (zaa (dv 2) (zaa zac (zaa (dv 0) zab))))))) zab))))),fun ds S Q ex h=>by
  obtain⟨Q0,ex0,rfl,rfl,h⟩:=h
  unfold zhi at h
  split at h
  ·rename_i m
   obtain⟨M,n,hn,⟨ds,hm,rows⟩,sq,big,h⟩:=h
   have lm:ds.length=n:=by rw[rows.len]; exact sq.1
   refine zbp hm ?_
   refine ifD (fun e=>?_) (fun e=>?_)
   ·have n0:n=0:=by omega
    subst n0
    exact⟨Pre.refl,.int _,h⟩
   ·obtain⟨n,rfl⟩:∃k,n=k + 1:=⟨n - 1,by omega⟩
    obtain⟨r0,M',rfl⟩:∃r M',M=r::M':=by
     match M,sq.1 with
     | r::M',_=>exact⟨r,M',rfl⟩
    have lr:r0.length=n + 1:=sq.2 r0 (by simp)
    obtain⟨a,hd,_,ha⟩:=rows.get' (k:=0) (r:=r0) rfl
    refine zhV (n:=a) (xs:=r0.map D.int) (fun k d=>.int (r0.getD k 0 * sgn (zaI n (za5 (r0::M') 0 k)) k)) (fun K hK=>?_) ha (by simp; omega) (fun k x hx S2 K p2 hK=>?_) ?_
    ·show dOp wIx (zcz 0) (dC (D.int 0)) [some (.ref m)] S fun x S1=>K [x] S1
     exact zjF hm hd hK
    ·have hk:k < n + 1:=by
      have:=(List.getElem?_eq_some_iff.mp hx).1
      simpa [lr] using this
     obtain rfl:=zlJ hx
     show zd7 [.ref m,.int 0,.int (k:Int)] S2 (fun y S3=>zf8 (.int (r0.getD k 0)) y S3 K) (fun _ _=>False)
     refine⟨r0::M',0,k,n,by omega,rfl,rfl,Nat.zero_le _,by omega,(show zbo S m (r0::M') from ⟨ds,hm,rows⟩).pre p2,sq,big,?_⟩
     refine⟨zki sq big (by omega) (by omega),?_⟩
     rw[Nat.zero_add]
     exact hK
    ·refine zmv (zax _ _) (zj9 n r0 M') ?_
     exact⟨Pre.refl.push,.int _,h⟩
  ·exact h.elim⟩))
def zw5  (zk2:Df K mg "inverse_entry" zlw zgG)(zcc:Fk P w K mg base 8 "cofactor" zbQ zd7):Fk P w K mg base 9 "inverse_entry" zgG zhQ:=
 zk2.mk' (zau (k:=8) zk2.F zwT (zvP) fun cdv A outer s H E hr=>⟨_,(zah (zap (zam zwI (zam zaZ (zam zaZ (zan zcc hr (zaa (dv 0) (zaa (dv 3) (zaa (dv 2) zab)))) (dv 4)) (dv 4)) (dv 1)))),fun ds S Q ex h=>by
  unfold zhQ at h
  split at h
  ·rename_i m w r c g
   obtain⟨M,i,j,n,hn,rfl,rfl,hi,hj,hm,sq,big,hw,hg,h⟩:=h
   refine⟨M,j,i,n,hn,rfl,rfl,hj,hi,hm,sq,big,?_⟩
   have e2:Sz 4140 (sgn (zaI n (za5 M j i)) (j + i)):=zlf (znI (zdG sq hj hi) (big.minor j i) (by omega))
   have eg:Sz 20 g:=Sz.of 1000000 (by omega)
   refine⟨zaR e2 eg,zaR (e2.mul eg) eg,⟨hw.1,hw.2.log hw.1⟩,?_⟩
   exact h
  ·exact h.elim⟩)
def zyc  (zjD:Df K mg "inverse_row" zhK zhs)(znE:Fk P w K mg base 9 "inverse_entry" zgG zhQ)(zaH:mg "range"=none)(zaA:mg "len"=none):Fk P w K mg base 10 "inverse_row" zhs zgF:=
 zjD.mk' (zau (k:=9) zjD.F ztB (zrh) fun cdv A outer s H E hr=>⟨_,(zah (zap (zmZ (x:="column") (N:=["matrix","whole","row","grid"]) (caps:=[0,1,2,3]) (ar:=zao zhK) rfl rfl csc rfl (by decide) rfl zaH (zaa (zaP (zaK zbi) rfl zaA Boot.«len» (zaa (dv 0) zab)) zab) (fun _ _ _ _ _ _=>zb9) (fun _ _ _ _ _ _=>(zan znE hr (zaa (dv 1) (zaa (dv 2) (zaa (dv 3) (zaa (dv 0) (zaa (dv 4) zab)))))))))),fun ds S Q ex h=>by
  unfold zgF at h
  split at h
  ·rename_i m w r g
   obtain⟨M,i,n,hn,rfl,hi,hm,sq,big,hw,hg,h⟩:=h
   obtain⟨ds,hds,rows⟩:=id hm
   have lm:ds.length=n + 1:=by rw[rows.len]; exact sq.1
   refine zmt (j:=((n + 1:Nat):Int)) (S1:=S) (fun k=>.int (zg0 M n w g i k)) (fun K hK=>?_) (by omega) (fun k hk S2 K p2 hK=>?_) ?_
   ·refine zbp hds ?_
    rw[lm]
    exact hK
   ·exact⟨M,i,k,n,hn,rfl,rfl,hi,by omega,hm.pre p2,sq,big,hw,hg,hK⟩
   ·have e:(List.range ((n + 1:Nat):Int).toNat).map (fun k=>D.int (zg0 M n w g i k))=(zes M n w g i).map D.int:=by
     unfold zes
     rw[List.map_map]
     rfl
    rw[e]
    exact h
  ·exact h.elim⟩)
def zu6  (zjv:Df K mg "inverse" zhP zgO)(znA:Fk P w K mg base 10 "inverse_row" zhs zgF)(zcK:Fk P w K mg base 9 "determinant" zbK zhi)(zaH:mg "range"=none)(zaA:mg "len"=none):Fk P w K mg base 11 "inverse" zgO zgd:=
 zjv.mk' (zau (k:=10) zjv.F zpW (zth) fun cdv A outer s H E hr=>⟨_,(zaj (zay (i:=2) zpW.nd rfl (Or.inr rfl) (zan zcK hr (zaa (dv 0) zab))) (zaj (zaS (zaO (zbe hr) (dv 2) zac (zaE _)) (zah (zap zdz)) zaT) (zah (zap (zmZ (x:="row") (N:=["matrix","whole","grid"]) (caps:=[0,2,1]) (ar:=zao zhP) rfl rfl csc rfl (by decide) rfl zaH (zaa (zaP (zaK zbi) rfl zaA Boot.«len» (zaa (dv 0) zab)) zab) (fun _ _ _ _ _ _=>zb9) (fun _ _ _ _ _ _=>(zan znA hr (zaa (dv 1) (zaa (dv 2) (zaa (dv 0) (zaa (dv 3) zab))))))))))),fun ds S Q ex h=>by
  unfold zgd at h
  split at h
  ·rename_i m g
   obtain⟨M,n,hn,hm,sq,big,hg,h0,h1⟩:=h
   obtain⟨ds,hds,rows⟩:=id hm
   have lm:ds.length=n + 1:=by rw[rows.len]; exact sq.1
   refine⟨M,n + 1,by omega,hm,sq,big,?_⟩
   refine ifD (c:=zaI (n + 1) M=0) (fun c=>?_) (fun c=>?_)
   ·exact h0 c
   ·refine zsg (j:=n + 1) (T0:=S) (zes M n (zaI (n + 1) M) g) (fun K hK=>?_) (by omega) (fun k S2 K hk p2 hK=>?_) (fun S2 ys p2 e2 r2=>?_)
    ·refine zbp hds ?_
     rw[lm]
     exact hK
    ·refine⟨M,k,n,hn,rfl,by omega,hm.pre p2,sq,big,⟨c,znI sq big (by omega)⟩,hg,?_⟩
     exact hK _ _ Pre.refl.push (Nat.le_refl _) (zax _ _)
    ·exact h1 c S2 _ p2 ⟨ys,e2,r2⟩
  ·exact h.elim⟩)
def zwW  (ziX:Df K mg "middle" zkb zgB):Fk P w K mg base 1 "middle" zgB zik:=
 ziX.mk' (zau (k:=0) ziX.F zxN (ztK) fun cdv A outer s H E hr=>⟨_,(zah (zap (zam zb1 (zam zba (zas (dv 0) zac (fun _ _=>rfl)) (zas (dv 0) zac (fun _ _=>rfl))) zac))),fun ds S Q ex h=>by
  unfold zik at h
  split at h
  ·exact h
  ·exact h.elim⟩)
def zvh  (zkM:Df K mg "middles" ziE zfc)(znk:Fk P w K mg base 1 "middle" zgB zik):Fk P w K mg base 2 "middles" zfc zeW:=
 zkM.mk' (zau (k:=1) zkM.F zvt (zxR) fun cdv A outer s H E hr=>⟨_,(zah (zap (zdd (x:="span") (N:=[]) (caps:=[]) (ar:=zao ziE) rfl rfl csc rfl (by decide) (dv 0) (fun _ _ _ _ _ _=>zb9) (fun _ _ _ _ _ _=>(zan znk hr (zaa (dv 0) zab)))))),fun ds S Q ex h=>by
  unfold zeW at h
  split at h
  ·rename_i s
   obtain⟨vs,hs,l9,h⟩:=h
   refine zdI (n:=s) (S1:=S) (o:=.lst (vs.map frD)) (fun d=>match d with | .tup [.int a,.int b]=>.int ((a + b) / 2) | _=>.non) (fun K hK=>by exact hK) hs (by show (vs.map frD).length≤1000; rw[List.length_map]; omega) (fun x hx S2 K pr hK=>?_) ?_
   ·have hx':x∈vs.map frD:=hx
    obtain⟨p,_,rfl⟩:=List.mem_map.mp hx'
    exact hK
   ·have e2:(zai (.lst (vs.map frD))).map (fun d=>match d with | .tup [.int a,.int b]=>.int ((a + b) / 2) | _=>.non)=vs.map fun p=>D.int (mid p):=by
     show (vs.map frD).map _=_
     rw[List.map_map]
     rfl
    rw[e2]
    exact h
  ·exact h.elim⟩)
def zvy  (zmH:Df K mg "box_of_middles" ziv zfm)(zfe:Fk P w K mg base 2 "middles" zfc zeW):Fk P w K mg base 3 "box_of_middles" zfm zeK:=
 zmH.mk' (zau (k:=2) zmH.F zsK (zx7) fun cdv A outer s H E hr=>⟨_,(zah (zap (zdd (x:="place") (N:=[]) (caps:=[]) (ar:=zao ziv) rfl rfl csc rfl (by decide) (zan zfe hr (zaa (dv 0) zab)) (fun _ _ _ _ _ _=>zb9) (fun _ _ _ _ _ _=>(za1 (zaa (dv 0) (zaa (dv 0) zab))))))),fun ds S Q ex h=>by
  unfold zeK at h
  split at h
  ·rename_i b
   obtain⟨vs,hb,l9,h⟩:=h
   refine zdI (n:=S.length) (S1:=S++[.lst (vs.map fun p=>.int (mid p))]) (o:=.lst (vs.map fun p=>.int (mid p))) (fun d=>.tup [d,d]) (fun K hK=>⟨vs,hb,l9,hK⟩) (zax _ _) (by show (vs.map _).length≤1000; rw[List.length_map]; omega) (fun x hx S2 K pr hK=>by exact hK) ?_
   refine h _ _ Pre.refl.push.push (by simp) ?_
   have e:(zai (.lst (vs.map fun p=>D.int (mid p)))).map (fun d=>D.tup [d,d])=(vs.map zaW).map frD:=by
    show (vs.map fun p=>D.int (mid p)).map _=_
    rw[List.map_map]
    rw[List.map_map]
    rfl
   rw[e]
   exact zax _ _
  ·exact h.elim⟩)
def ztp  (zmB:Df K mg "sum_of_products" zl9 zfV)(zb3:Fk P w K mg base 1 "add_spans" zdc zde)(zch:Fk P w K mg base 2 "mul_spans" zdx zdK)(zbk:mg "zip"=none):Fk P w K mg base 3 "sum_of_products" zfV ze8:=
 zmB.mk' (zau (k:=2) zmB.F zlX (zvQ) fun cdv A outer s H E hr=>⟨_,(zaj (zay (i:=3) zlX.nd rfl (Or.inl rfl) (za1 (zaa zac (zaa zac zab)))) (zaj (zu3 (is:=[4,5]) PassesOwn.never rfl zlX.nd (Nms.cons (i:=4) rfl (Or.inl rfl) (by first | exact .inl rfl | exact .inr rfl) (Nms.cons (i:=5) rfl (Or.inl rfl) (by first | exact .inl rfl | exact .inr rfl) Nms.nil)) rfl rfl zbk Boot.«zip» (zaa (dv 0) (zaa (dv 1) zab)) (zah (zay (i:=3) zlX.nd rfl (Or.inl rfl) (zan zb3 hr (zaa (dv 3) (zaa (zan zch hr (zaa (dv 4) (zaa (dv 5) (zaa (dv 2) zab)))) zab)))))) (zah (zap (dv 3))))),fun ds S Q ex h=>by
  unfold ze8 at h
  split at h
  ·rename_i a b g
   obtain⟨us,vs,ha,hb,l6,z1,z2,hg,h⟩:=h
   have sg:Sz 21 g:=Sz.of 1000000 (by omega)
   refine zrm (n:=a) (n':=b) (xs:=us.map frD) (ys:=vs.map frD) (S:=S) (fun k dl'=>∃u1 u2:Option D,dl'=[some (.ref a),some (.ref b),some (.int g),some (frD (sumP g (us.take k) (vs.take k))),u1,u2]) (fun K hK=>by exact hK) ha hb ⟨_,_,rfl⟩ ?_ ?_
   ·rintro k x y dl' nx ct hx hy ⟨u1,u2,rfl⟩ hn
    rw[List.getElem?_map] at hx hy
    obtain⟨p,hp,rfl⟩:=Option.map_eq_some_iff.mp hx
    obtain⟨r,hr,rfl⟩:=Option.map_eq_some_iff.mp hy
    have zp:=z1 _ (List.mem_of_getElem? hp)
    have zr:=z2 _ (List.mem_of_getElem? hr)
    refine⟨⟨⟨zaR zp.1 zr.1,zaR zp.1 zr.2,zaR zp.2 zr.1,zaR zp.2 zr.2⟩,sg.fd (by omega)⟩,fun mn mx hc=>?_⟩
    obtain⟨rfl,rfl⟩:=hc.eq
    refine hn _ ⟨some (frD p),some (frD r),?_⟩
    rw[zjj g us vs k hp hr]
    rfl
   ·rintro dl' ⟨u1,u2,rfl⟩
    rw[List.length_map,List.length_map,zoc]
    exact h
  ·exact h.elim⟩)
def zxA  (zmM:Df K mg "lacking" zgD zhn)(zcq:Fk P w K mg base 1 "take_spans" zdA zdT)(zd9:Fk P w K mg base 3 "sum_of_products" zfV ze8):Fk P w K mg base 4 "lacking" zhn zgm:=
 zmM.mk' (zb0 (zau (k:=3) zmM.F zn7 (zbV (zwS)) fun cdv A outer s H E hr=>⟨_,(zaj (zay (i:=5) zn7.nd rfl (Or.inl rfl) (zod (zaO (zbe hr) (dv 0) (dv 1) (zaE _)) (za1 (zaa (dv 4) (zaa (dv 4) zab))) (za1 (zaa zac (zaa zac zab))))) (zaj (zoW (x:="slant") (N:=["column"]) (caps:=[1]) (ar:=zao zgD) rfl rfl csc rfl (by decide) (i:=6) zn7.nd rfl rfl (dv 3) (fun _ _ _ _ _ _=>zb9) (fun _ _ _ _ _ _=>(zaF (dv 0) (dv 1) (fun _ _=>rfl)))) (zah (zap (zan zcq hr (zaa (dv 5) (zaa (zan zd9 hr (zaa (dv 2) (zaa (dv 6) (zaa (dv 4) zab)))) zab))))))),fun ds S Q ex h=>by
  obtain⟨Q0,ex0,rfl,rfl,h⟩:=h
  unfold zgm at h
  split at h
  ·rename_i k c t s g
   obtain⟨q,kn,cn,ts,R,ds,rfl,rfl,ht,hs,rows,zr,hc,l6,r6,z1,hg,h⟩:=h
   have tail:∀whole:Int×Int,whole=(if kn=cn then (g,g) else (0,0))→∀K:DK,K (frD (zb6 g kn cn ts R)) (S++[.lst ((R.map fun r=>r.getD cn (0,0)).map frD)])→True:=fun _ _ _ _=>trivial
   have col:∀(k:Nat) (r:List (Int×Int)),R[k]?=some r→atI (r.map frD) ((cn:Nat):Int)=some (frD (r.getD cn (0,0))):=fun k r hr=>by
    have hl:=(zr r (List.mem_of_getElem? hr)).1
    have z:=za4 (vs:=r) (i:=((cn:Nat):Int)) ⟨by omega,by rw[hl]; omega⟩
    rw[z]
    have e:gt r ((cn:Nat):Int)=r.getD cn (0,0):=by
     have ll:cn < r.length:=by rw[hl]; exact hc
     unfold gt
     rw[Int.toNat_natCast]
     simp[ll]
    rw[e]
   have bd:Bd 20000 (R.map fun r=>r.getD cn (0,0)):=fun p hp=>by
    obtain⟨r,hr,er⟩:=List.mem_map.mp hp
    subst er
    obtain⟨hl,b⟩:=zr r hr
    have ll:cn < r.length:=by rw[hl]; exact hc
    have e:r.getD cn (0,0)=r[cn]:=by simp[ll]
    rw[e]
    exact⟨(b _ (List.getElem_mem ll)).1.mono (by decide),(b _ (List.getElem_mem ll)).2.mono (by decide)⟩
   have zbj:∀whole:Int×Int,whole=(if kn=cn then (g,g) else (0,0))→Gc S Q0 (.tup [.int (whole.1 - (sumP g ts (R.map fun r=>r.getD cn (0,0))).2),.int (whole.2 - (sumP g ts (R.map fun r=>r.getD cn (0,0))).1)]) (S++[.lst ((R.map fun r=>r.getD cn (0,0)).map frD)]):=fun whole e=>by
    subst e
    exact⟨Pre.refl.push,zfn,h⟩
   refine ifD (fun e=>?_) (fun e=>?_)
   ·refine zqj (n:=s) (S1:=S) (o:=.lst ds) (fun k d=>∃r,R[k]?=some r∧d=frD (r.getD cn (0,0))) (fun K hK=>by exact hK) hs (by show ds.length≤1000; rw[rows.1]; omega) (fun k x hx S2 K pr hK=>?_) (fun xs lx hx=>?_)
    ·have hx':ds[k]?=some x:=hx
     have hk:k < R.length:=by
      have:=(List.getElem?_eq_some_iff.mp hx').1
      rw[rows.1] at this
      exact this
     obtain⟨a,rfl,_,ha⟩:=rows.2 k x _ hx' (List.getElem?_eq_getElem hk)
     refine zaD (o:=.lst _) (pr _ _ ha) (col k _ (List.getElem?_eq_getElem hk)) ?_
     exact hK _ ⟨_,List.getElem?_eq_getElem hk,rfl⟩
    ·have e2:xs=(R.map fun r=>r.getD cn (0,0)).map frD:=by
      refine List.ext_getElem? fun k=>?_
      by_cases hk:k < xs.length
      ·obtain⟨r,hr,e⟩:=hx k _ (List.getElem?_eq_getElem hk)
       rw[List.getElem?_eq_getElem hk,List.getElem?_map,List.getElem?_map,hr,e]
       rfl
      ·have lx':xs.length=R.length:=by rw[lx]; exact rows.1
       rw[List.getElem?_eq_none (by omega),List.getElem?_eq_none (by simp; omega)]
     subst e2
     refine⟨ts,_,zaz ht,zax _ _,l6,z1,bd,hg,?_⟩
     exact zbj (g,g) (by rw[if_pos (by omega)])
   ·refine zqj (n:=s) (S1:=S) (o:=.lst ds) (fun k d=>∃r,R[k]?=some r∧d=frD (r.getD cn (0,0))) (fun K hK=>by exact hK) hs (by show ds.length≤1000; rw[rows.1]; omega) (fun k x hx S2 K pr hK=>?_) (fun xs lx hx=>?_)
    ·have hx':ds[k]?=some x:=hx
     have hk:k < R.length:=by
      have:=(List.getElem?_eq_some_iff.mp hx').1
      rw[rows.1] at this
      exact this
     obtain⟨a,rfl,_,ha⟩:=rows.2 k x _ hx' (List.getElem?_eq_getElem hk)
     refine zaD (o:=.lst _) (pr _ _ ha) (col k _ (List.getElem?_eq_getElem hk)) ?_
     exact hK _ ⟨_,List.getElem?_eq_getElem hk,rfl⟩
    ·have e2:xs=(R.map fun r=>r.getD cn (0,0)).map frD:=by
      refine List.ext_getElem? fun k=>?_
      by_cases hk:k < xs.length
      ·obtain⟨r,hr,e⟩:=hx k _ (List.getElem?_eq_getElem hk)
       rw[List.getElem?_eq_getElem hk,List.getElem?_map,List.getElem?_map,hr,e]
       rfl
      ·have lx':xs.length=R.length:=by rw[lx]; exact rows.1
       rw[List.getElem?_eq_none (by omega),List.getElem?_eq_none (by simp; omega)]
     subst e2
     refine⟨ts,_,zaz ht,zax _ _,l6,z1,bd,hg,?_⟩
     exact zbj (0,0) (by rw[if_neg (by omega)])
  ·exact h.elim⟩))
def zum  (ziF:Df K mg "span_by" zd6 zg2)(zb3:Fk P w K mg base 1 "add_spans" zdc zde)(zd9:Fk P w K mg base 3 "sum_of_products" zfV ze8)(zcq:Fk P w K mg base 1 "take_spans" zdA zdT)(zno:Fk P w K mg base 4 "lacking" zhn zgm)(ze5:Fk P w K mg base 3 "box_of_middles" zfm zeK)(zbk:mg "zip"=none)(zaH:mg "range"=none)(zaA:mg "len"=none):Fk P w K mg base 5 "span_by" zg2 zgI:=
 ziF.mk' (zb0 (zau (k:=4) ziF.F zfX (zbV (zwE)) fun cdv A outer s H E hr=>⟨_,(zaj (zay (i:=6) zfX.nd rfl (Or.inr rfl) (zdd (x:="entry") (N:=[]) (caps:=[]) (ar:=zao zd6) rfl rfl csc rfl (by decide) (dv 3) (fun _ _ _ _ _ _=>zb9) (fun _ _ _ _ _ _=>(za1 (zaa (dv 0) (zaa (dv 0) zab)))))) (zaj (zay (i:=7) zfX.nd rfl (Or.inl rfl) (zan ze5 hr (zaa (dv 1) zab))) (zaj (zay (i:=8) zfX.nd rfl (Or.inl rfl) (zan zcq hr (zaa (zaF (dv 7) (dv 0) (fun _ _=>rfl)) (zaa (zan zd9 hr (zaa (dv 6) (zaa (dv 4) (zaa (dv 2) zab)))) zab)))) (zaj (zo1 (x:="column") (N:=["k","turns","slants","grid"]) (caps:=[0,6,5,2]) (ar:=zao zd6) rfl rfl csc rfl (by decide) (i:=9) zfX.nd rfl rfl rfl zaH (zaa (zaP (zaK zbi) rfl zaA Boot.«len» (zaa (dv 1) zab)) zab) (fun _ _ _ _ _ _=>zb9) (fun _ _ _ _ _ _=>(zan zno hr (zaa (dv 1) (zaa (dv 0) (zaa (dv 2) (zaa (dv 3) (zaa (dv 4) zab)))))))) (zaj (zwl (x1:="span") (x2:="centre") (N:=[]) (caps:=[]) (ar:=zao zd6) rfl rfl zcW rfl rfl rfl (by decide) (i:=10) zfX.nd rfl rfl rfl zbk Boot.«zip» (zaa (dv 1) (zaa (dv 7) zab)) (fun _ _ _ _ _ _=>(zan zcq hr (zaa (dv 0) (zaa (dv 1) zab))))) (zah (zap (zan zb3 hr (zaa (dv 8) (zaa (zan zd9 hr (zaa (dv 9) (zaa (dv 10) (zaa (dv 2) zab)))) zab)))))))))),fun ds S Q ex h=>by
  obtain⟨Q0,ex0,rfl,rfl,h⟩:=h
  unfold zgI at h
  split at h
  ·rename_i ki b g e t s
   obtain⟨k,box,thin,es,R,ds,rfl,hk,he,e4,ze,hb,ht,hs,rows,zr,bl,r4,t4,zb,zt,hg,h⟩:=h
   have bdE:Bd 20000 (es.map fun x=>(x,x)):=fun p hp=>by
    obtain⟨x,hx,rfl⟩:=List.mem_map.mp hp
    exact⟨(ze x hx).mono (by decide),(ze x hx).mono (by decide)⟩
   have bdT:Bd 20000 thin:=fun p hp=>⟨(zt p hp).1.mono (by decide),(zt p hp).2.mono (by decide)⟩
   have lE:(es.map fun x=>(x,x)).length≤60:=by rw[List.length_map]; omega
   refine zdI (n:=e) (S1:=S) (o:=.lst (es.map D.int)) (fun d=>.tup [d,d]) (fun K hK=>by exact hK) he (by show (es.map D.int).length≤1000; rw[List.length_map]; omega) (fun x hx S2 K pr hK=>by exact hK) ?_
   have eE:(zai (.lst (es.map D.int))).map (fun d=>D.tup [d,d])=(es.map fun x=>(x,x)).map frD:=by
    show (es.map D.int).map _=_
    rw[List.map_map]
    rw[List.map_map]
    rfl
   rw[eE]
   have T0:=zax S (.lst ((es.map fun x=>(x,x)).map frD))
   refine⟨box,zaz hb,by omega,fun T m pr lm hm=>?_⟩
   have P0:Pre S T:=fun x o z=>pr _ _ (zaz z)
   have hT:=pr _ _ T0
   have kc:inR (((box.map zaW).length:Nat):Int) (k:Int):=⟨by omega,by rw[List.length_map]; omega⟩
   have ec:gt (box.map zaW) (k:Int)=zaW (gt box k):=by
    unfold gt
    rw[Int.toNat_natCast]
    simp[hk]
   have ac:=za4 kc
   rw[ec] at ac
   refine zaD (o:=.lst ((box.map zaW).map frD)) hm ac ?_
   refine⟨_,thin,hT,P0 _ _ ht,lE,bdE,bdT,hg,?_⟩
   have lk:∀c:Nat,c < box.length→∀(S2:Sto) (K:DK),Pre T S2→K (frD (zb6 g k c (es.map fun x=>(x,x)) R)) S2→∃(q kn cn:Nat) (ts:List (Int×Int)) (R':List (List (Int×Int))) (ds':List D),((k:Nat):Int)=(kn:Nat)∧((c:Nat):Int)=(cn:Nat)∧S2[S.length]?=some (.lst (ts.map frD))∧S2[s]?=some (.lst ds')∧zaX S2 0 ds' R'∧(∀r∈R',r.length=q∧Bd 2000 r)∧cn < q∧ts.length≤60∧R'.length≤60∧Bd 20000 ts∧(1≤g∧g≤1000000)∧K (frD (zb6 g kn cn ts R')) S2:=fun c hc S2 K p2 hK=>⟨box.length,k,c,_,R,ds,rfl,rfl,p2 _ _ hT,p2 _ _ (P0 _ _ hs),rows.pre fun x o z=>p2 _ _ (P0 _ _ z),zr,hc,lE,by omega,bdE,hg,hK⟩
   refine zmt (j:=((box.length:Nat):Int)) (S1:=T) (fun c=>frD (zb6 g k c (es.map fun x=>(x,x)) R)) (fun K hK=>by
    refine zbp (P0 _ _ hb) ?_
    rw[List.length_map]
    exact hK) ⟨by omega,by omega⟩ (fun c hc S2 K p2 hK=>lk c (by omega) S2 K p2 hK) ?_
   rw[Int.toNat_natCast]
   have eL:((List.range box.length).map fun c=>frD (zb6 g k c (es.map fun x=>(x,x)) R))=((List.range box.length).map fun c=>zb6 g k c (es.map fun x=>(x,x)) R).map frD:=by
    rw[List.map_map]
    rfl
   rw[eL]
   have T1:=zax T (.lst (((List.range box.length).map fun c=>zb6 g k c (es.map fun x=>(x,x)) R).map frD))
   refine zho (n:=b) (n':=m) (S1:=T++[.lst (((List.range box.length).map fun c=>zb6 g k c (es.map fun x=>(x,x)) R).map frD)]) (xs:=box.map frD) (ys:=(box.map zaW).map frD) (fun x y=>match x,y with | .tup [.int a,.int b],.tup [.int c,.int d]=>.tup [.int (a - d),.int (b - c)] | _,_=>.non) (fun K hK=>by exact hK) (zaz (P0 _ _ hb)) (zaz hm) (by rw[List.length_map]; omega) (fun j x y hx hy S2 K p2 hK=>?_) ?_
   ·rw[List.getElem?_map] at hx hy
    obtain⟨p,hp,rfl⟩:=Option.map_eq_some_iff.mp hx
    obtain⟨r,hr,rfl⟩:=Option.map_eq_some_iff.mp hy
    exact hK
   have eW:List.zipWith (fun x y=>match x,y with | .tup [.int a,.int b],.tup [.int c,.int d]=>.tup [.int (a - d),.int (b - c)] | _,_=>.non) (box.map frD) ((box.map zaW).map frD)=(box.map fun p=>zcD p (zaW p)).map frD:=by
    rw[List.map_map,List.zipWith_map,List.map_map,List.zipWith_self]
    rfl
   rw[eW]
   have zm:Bd 62 (box.map fun p=>zcD p (zaW p)):=fun p hp=>by
    obtain⟨x,hx,rfl⟩:=List.mem_map.mp hp
    have z:=zb x hx
    have zmid:=znx z.1 z.2
    exact(zqw (B:=60) (C:=61) z ⟨zmid,zmid⟩).imp (fun z=>z.mono (by decide)) (fun z=>z.mono (by decide))
   have zl:Bd 20000 ((List.range box.length).map fun c=>zb6 g k c (es.map fun x=>(x,x)) R):=fun p hp=>by
    obtain⟨c,hc,rfl⟩:=List.mem_map.mp hp
    have hc':=List.mem_range.mp hc
    have bR:Bd 2000 (R.map fun r=>r.getD c (0,0)):=fun p hp=>by
     obtain⟨r,hr,er⟩:=List.mem_map.mp hp
     subst er
     obtain⟨hl,b⟩:=zr r hr
     have ll:c < r.length:=by rw[hl]; exact hc'
     have e:r.getD c (0,0)=r[c]:=by simp[ll]
     rw[e]
     exact b _ (List.getElem_mem ll)
    have bE:Bd 4000 (es.map fun x=>(x,x)):=fun p hp=>by
     obtain⟨x,hx,rfl⟩:=List.mem_map.mp hp
     exact⟨ze x hx,ze x hx⟩
    have z:=zs5 hg.1 bE bR lE
    have sg:Sz 21 g:=Sz.of 1000000 (by omega)
    unfold zb6
    have w:Sz 21 (if k=c then (g,g) else (0,0)).1∧Sz 21 (if k=c then (g,g) else (0,0)).2:=by
     split
     ·exact⟨sg,sg⟩
     ·exact⟨Nat.pow_pos (by decide),Nat.pow_pos (by decide)⟩
    exact(zqw w z).imp (fun z=>z.mono (by decide)) (fun z=>z.mono (by decide))
   refine⟨_,_,zaz T1,zax _ _,by rw[List.length_map,List.length_range]; omega,zl,fun p hp=>⟨(zm p hp).1.mono (by decide),(zm p hp).2.mono (by decide)⟩,hg,?_⟩
   exact⟨fun x o z=>zaz (zaz (P0 _ _ z)),zfn,h⟩
  ·exact h.elim⟩))
def zrz  (zjY:Df K mg "step_by" zgc zit)(zn8:Fk P w K mg base 5 "span_by" zg2 zgI)(zbm:mg "enumerate"=none):Fk P w K mg base 6 "step_by" zit ziA:=
 zjY.mk' (zau (k:=5) zjY.F zxz (zwL) fun cdv A outer s H E hr=>⟨_,(zah (zap (zfa (x1:="k") (x2:="entries") (N:=["box","grid","thin","slants"]) (caps:=[0,1,3,4]) (ar:=zao zgc) rfl rfl zcW rfl rfl rfl (by decide) rfl zbm Boot.«enumerate» (zaa (dv 2) zab) (fun _ _ _ _ _ _=>(zan zn8 hr (zaa (dv 0) (zaa (dv 2) (zaa (dv 3) (zaa (dv 1) (zaa (dv 4) (zaa (dv 5) zab))))))))))),fun ds S Q ex h=>by
  unfold ziA at h
  split at h
  ·rename_i b g u t s
   obtain⟨box,thin,M,ms,R,ds,hu,mi,lM,zM,hb,ht,hs,rows,zr,bl,r4,t4,zb,zt,hg,h⟩:=h
   refine zhV (n:=u) (S1:=S) (xs:=ms) (fun k d=>frD (zbO g box thin R k (M.getD k []))) (fun K hK=>by exact hK) hu (by rw[mi.1]; omega) (fun k x hx S2 K pr hK=>?_) ?_
   ·have hk:k < M.length:=by
     have:=(List.getElem?_eq_some_iff.mp hx).1
     rw[mi.1] at this
     exact this
    obtain⟨a,rfl,ha⟩:=mi.2 k x _ hx (List.getElem?_eq_getElem hk)
    have eM:M.getD k []=M[k]:=by simp[hk]
    rw[eM] at hK
    have z:=zM _ (List.getElem_mem hk)
    exact⟨k,box,thin,M[k],R,ds,rfl,by omega,pr _ _ ha,z.1,z.2,pr _ _ hb,pr _ _ ht,pr _ _ hs,rows.pre pr,zr,bl,r4,t4,zb,zt,hg,hK⟩
   ·have e:(ms.mapIdx fun k d=>frD (zbO g box thin R k (M.getD k [])))=(M.mapIdx fun k es=>zbO g box thin R k es).map frD:=by
     refine List.ext_getElem? fun k=>?_
     rw[List.getElem?_mapIdx,List.getElem?_map,List.getElem?_mapIdx]
     by_cases hk:k < M.length
     ·rw[List.getElem?_eq_getElem (show k < ms.length by rw[mi.1]; exact hk),List.getElem?_eq_getElem hk]
      simp[hk]
     ·rw[List.getElem?_eq_none (by rw[mi.1]; omega),List.getElem?_eq_none (show M.length≤k by omega)]
      rfl
    rw[e]
    exact h
  ·exact h.elim⟩)
def zu1  (zlj:Df K mg "thin_worths" zjn zf0)(zfx:Fk P w K mg base 1 "picked" zeQ zfN)(zdm:Fk P w K mg base 4 "worths" zd4 zeo)(ze5:Fk P w K mg base 3 "box_of_middles" zfm zeK):Fk P w K mg base 5 "thin_worths" zf0 zix:=
 zlj.mk' (zau (k:=4) zlj.F zvc (zsD) fun cdv A outer s H E hr=>⟨_,(zah (zap (zan zfx hr (zaa (zan zdm hr (zaa (dv 0) (zaa (zan ze5 hr (zaa (dv 2) zab)) (zaa (dv 3) zab)))) (zaa (dv 1) zab))))),fun ds S Q ex h=>by
  unfold zix at h
  split at h
  ·rename_i a p b g
   obtain⟨ns,ws,bs,is,ha,hb,net,sb,hg,l7,b9,hp,i9,hi,h⟩:=h
   refine⟨bs,hb,b9,fun T m pr lm hm=>?_⟩
   refine⟨ns,ws,bs.map zaW,pr _ _ ha,hm,by rw[List.length_map]; exact net,zp7 sb,hg,l7,fun T1 m1 pr1 lm1 h1=>?_⟩
   refine⟨_,is,h1,pr1 _ _ (pr _ _ hp),i9,fun i him=>by rw[List.length_map,zcB]; exact hi i him,?_⟩
   have e:(is.map fun i=>((zar (bs.map zaW) g ns).map frD).getD i .non)=(is.map fun (i:Nat)=>gt (zar (bs.map zaW) g ns) i).map frD:=by
    rw[List.map_map]
    refine List.map_congr_left fun i him=>?_
    have hl:i < (zar (bs.map zaW) g ns).length:=by rw[zcB]; exact hi i him
    show _=frD (gt (zar (bs.map zaW) g ns) (i:Int))
    unfold gt
    rw[Int.toNat_natCast]
    simp[hl]
   rw[e]
   refine h _ _ (fun x o z=>zaz (pr1 _ _ (pr _ _ z))) ?_ (zax _ _)
   have:=zdy pr
   have:=zdy pr1
   omega
  ·exact h.elim⟩)
def ztQ  (zmq:Df K mg "deep" zj4 zhA):Fk P w K mg base 1 "deep" zhA zir:=
 zmq.mk' (zau (k:=0) zmq.F zsX (zxa) fun cdv A outer s H E hr=>⟨_,(zah (zap (zeS (zc8 zeC (zas (dv 1) zac (fun _ _=>rfl)) (zas (dv 0) zac (fun _ _=>rfl)) (zaE _)) (zhY (zc8 zeC (zas (dv 0) zac (fun _ _=>rfl)) (zas (dv 1) zac (fun _ _=>rfl)) (zaE _)))))),fun ds S Q ex h=>by
  unfold zir at h
  split at h
  ·refine ifD (fun e=>?_) (fun e=>?_)
   ·rw[decide_eq_true e,Bool.true_and] at h
    exact h
   ·rw[decide_eq_false e,Bool.false_and] at h
    exact h
  ·exact h.elim⟩)
def zvZ  (zmA:Df K mg "all_deep" zgA zhj)(zm0:Fk P w K mg base 1 "deep" zhA zir)(zcS:mg "all"=none)(zbk:mg "zip"=none):Fk P w K mg base 2 "all_deep" zhj zhb:=
 zmA.mk' (zb0 (zau (k:=1) zmA.F zu0 (zbV (zuC)) fun cdv A outer s H E hr=>⟨_,(zah (zap (zaP (zaK (zq3 rfl)) rfl zcS Boot.«all» (zaa (zk9 (x1:="new") (x2:="old") (N:=[]) (caps:=[]) (ar:=zao zgA) rfl rfl zcW rfl rfl rfl (by decide) rfl zbk Boot.«zip» (zaa (dv 0) (zaa (dv 1) zab)) (fun _ _ _ _ _ _=>(zan zm0 hr (zaa (dv 0) (zaa (dv 1) zab))))) zab)))),fun ds S Q ex h=>by
  obtain⟨Q0,ex0,rfl,rfl,h⟩:=h
  unfold zhb at h
  split at h
  ·rename_i m n
   obtain⟨us,vs,h1,h2,hl,h⟩:=h
   refine zho (n:=m) (n':=n) (S1:=S) (xs:=us.map frD) (ys:=vs.map frD) (fun x y=>match x,y with | .tup [.int a,.int b],.tup [.int c,.int d]=>.bl (decide (c < a) && decide (b < d)) | _,_=>.non) (fun K hK=>by exact hK) h1 h2 (by rw[List.length_map]; exact hl) (fun k x y hx hy S2 K pr hK=>?_) ?_
   ·obtain⟨p,_,rfl⟩:=List.mem_map.mp (List.mem_of_getElem? hx)
    obtain⟨q,_,rfl⟩:=List.mem_map.mp (List.mem_of_getElem? hy)
    exact hK
   ·refine zqX (n:=S.length) (o:=.lst _) (bs:=List.zipWith zfG us vs) (zax _ _) (zuc us vs) ?_
    exact⟨Pre.refl.push,.bl _,h⟩
  ·exact h.elim⟩))
def zxl  (zk1:Df K mg "sure" zi1 zh6):Fk P w K mg base 1 "sure" zh6 zge:=
 zk1.mk' (zau (k:=0) zk1.F zrk (zub) fun cdv A outer s H E hr=>⟨_,(zaj (zaS (zaO (zbe hr) (dv 0) zbB (zaE _)) (zah (zap (zeS (zc8 (zbe hr) (zas (dv 1) zac (fun _ _=>rfl)) zac (zaE _)) (zhY (zc8 (zbe hr) (zas (dv 1) zac (fun _ _=>rfl)) zac (zaE _)))))) zaT) (zah (zap (zc8 do_ge (zas (dv 1) zac (fun _ _=>rfl)) zac (zaE _))))),fun ds S Q ex h=>by
  unfold zge at h
  split at h
  ·rcases h with ⟨rfl,h⟩ | ⟨rfl,h⟩
   ·refine ifD (fun c=>?_) (fun c=>?_)
    ·rw[decide_eq_true c,Bool.true_and] at h
     exact h
    ·rw[decide_eq_false c,Bool.false_and] at h
     exact h
   ·exact h
  ·exact h.elim⟩)
def zvI  (zi2:Df K mg "leasts_are_sure" zhU ziz)(znV:Fk P w K mg base 1 "sure" zh6 zge)(zcS:mg "all"=none):Fk P w K mg base 2 "leasts_are_sure" ziz ziw:=
 zi2.mk' (zb0 (zau (k:=1) zi2.F zuo (zbV (zuB)) fun cdv A outer s H E hr=>⟨_,(zah (zap (zaP (zaK (zq3 rfl)) rfl zcS Boot.«all» (zaa (zdd (x:="row") (N:=["spans"]) (caps:=[1]) (ar:=zao zhU) rfl rfl csc rfl (by decide) (dv 0) (fun _ _ _ _ _ _=>zqZ (zaO (zbe hr) (zas (dv 0) zac (fun _ _=>rfl)) zbB (zaE _))) (fun _ _ _ _ _ _=>(zan znV hr (zaa (zas (dv 0) zac (fun _ _=>rfl)) (zaa (zaF (dv 1) (zas (dv 0) zac (fun _ _=>rfl)) (fun _ _=>rfl)) zab))))) zab)))),fun ds S Q ex h=>by
  obtain⟨Q0,ex0,rfl,rfl,h⟩:=h
  unfold ziw at h
  split at h
  ·rename_i r s
   obtain⟨rows,vs,hr,hs,l9,hi,h⟩:=h
   refine zqe (n:=r) (S1:=S) (o:=.lst (rows.map rwD)) (fun d=>match d with | .tup [.str w,.int at']=>if w="least" then some (.bl (decide (0≤(gt vs at').1))) else none | _=>none) (fun K hK=>by exact hK) hr (by show (rows.map rwD).length≤1000; rw[List.length_map]; omega) (fun x hx S2 K pr hK=>?_) (fun x hx y hy S2 K pr hK=>?_) ?_
   ·have hx':x∈rows.map rwD:=hx
    obtain⟨⟨b,n⟩,_,rfl⟩:=List.mem_map.mp hx'
    cases b
    ·exact hK
    ·exact hK
   ·have hx':x∈rows.map rwD:=hx
    obtain⟨⟨b,n⟩,hm,rfl⟩:=List.mem_map.mp hx'
    cases b
    ·cases hy
     refine zaD (o:=.lst (vs.map frD)) (pr _ _ hs) (za4 (vs:=vs) (i:=(n:Int)) ⟨by omega,by have:=hi _ hm; dsimp only at this; omega⟩) ?_
     exact .inr ⟨rfl,hK⟩
    ·exact absurd hy (by
      simp[rwD]
      intro z
      exact absurd z (by decide))
   ·refine zqX (n:=S.length) (o:=.lst _) (zax _ _) (zm3 vs rows) ?_
    rw[← znP vs rows] at h
    exact⟨Pre.refl.push,.bl _,h⟩
  ·exact h.elim⟩))
def ztI  (ziT:Df K mg "alone" zgK zeB)(zoF:Fk P w K mg base 2 "all_deep" zhj zhb)(zoy:Fk P w K mg base 6 "step_by" zit ziA)(zor:Fk P w K mg base 5 "thin_worths" zf0 zix)(znX:Fk P w K mg base 11 "inverse" zgO zgd)(zfe:Fk P w K mg base 2 "middles" zfc zeW)(zm2:Fk P w K mg base 6 "slopes_at" zgj zhf)(zm7:Fk P w K mg base 2 "leasts_are_sure" ziz ziw)(zdm:Fk P w K mg base 4 "worths" zd4 zeo)(zm4:Fk P w K mg base 1 "equation_places" zgz zg8)(zaA:mg "len"=none):Fk P w K mg base 12 "alone" zeB zeY:=
 ziT.mk' (zau (k:=11) ziT.F zgn (zwz) fun cdv A outer s H E hr=>⟨_,(zaj (zay (i:=4) zgn.nd rfl (Or.inl rfl) (zan zm4 hr (zaa (dv 1) zab))) (zaj (zaS (PDW.pt (zdu (zaO (zl7 hr) (zaP (zaK zbi) rfl zaA Boot.«len» (zaa (dv 4) zab)) (zaP (zaK zbi) rfl zaA Boot.«len» (zaa (dv 2) zab)) (zaE _)) (zef (zcr (zcF (zan zm7 hr (zaa (dv 1) (zaa (zan zdm hr (zaa (dv 0) (zaa (dv 2) (zaa (dv 3) zab)))) zab)))))))) (zah (zap zdz)) zaT) (zaj (zay (i:=5) zgn.nd rfl (Or.inl rfl) (zan zm2 hr (zaa (dv 0) (zaa (dv 4) (zaa (dv 2) (zaa (dv 3) zab)))))) (zaj (zay (i:=6) zgn.nd rfl (Or.inl rfl) (zan znX hr (zaa (zdd (x:="slant") (N:=[]) (caps:=[]) (ar:=zao zgK) rfl rfl csc rfl (by decide) (dv 5) (fun _ _ _ _ _ _=>zb9) (fun _ _ _ _ _ _=>(zan zfe hr (zaa (dv 0) zab)))) (zaa (dv 3) zab)))) (zaj (zaS (zaO zov (dv 6) zdz (zaE _)) (zah (zap zdz)) zaT) (zaj (zay (i:=7) zgn.nd rfl (Or.inl rfl) (zan zoy hr (zaa (dv 2) (zaa (dv 3) (zaa (dv 6) (zaa (zan zor hr (zaa (dv 0) (zaa (dv 4) (zaa (dv 2) (zaa (dv 3) zab))))) (zaa (dv 5) zab))))))) (zaj (zaS (zcr (zcF (zan zoF hr (zaa (dv 7) (zaa (dv 2) zab))))) (zah (zap zdz)) zaT) (zah (zap (za1 (zaa (dv 6) (zaa (dv 7) zab)))))))))))),fun ds S Q ex h=>by
  unfold zeY at h
  split at h
  ·rename_i a r b g
   obtain⟨ns,ws,bs,rows,ha,hb,net,sb,hg,l7,b9,hr,r9,hi,bl,hN,hY⟩:=h
   have hi':∀i∈eqs rows,i < ns.length:=fun i him=>hi _ (zoJ him)
   refine⟨rows,hr,r9,?_⟩
   have P0:Pre S (S++[Ob.lst ((eqs rows).map wtD)]):=Pre.refl.push
   have hp:=zax S (.lst ((eqs rows).map wtD))
   refine zbp hp ?_
   refine zbp (P0 _ _ hb) ?_
   rw[List.length_map,List.length_map]
   refine ifN (fun c=>?_) (fun c=>?_)
   ·refine zb2 ?_
    exact hN (by unfold alS; rw[if_neg (fun z=>c (by rw[z.1]))]) _ P0
   have lq:(eqs rows).length=bs.length:=by omega
   refine⟨ns,ws,bs,P0 _ _ ha,P0 _ _ hb,net,sb,hg,l7,fun T1 m1 p1 lm1 h1=>?_⟩
   have P1:Pre S T1:=fun x o z=>p1 _ _ (P0 _ _ z)
   refine⟨rows,zar bs g ns,P1 _ _ hr,h1,r9,fun r hr=>by rw[zcB]; exact hi r hr,?_⟩
   cases eL:zls rows (zar bs g ns)
   ·refine zb2 ?_
    exact hN (by unfold alS; rw[if_neg (fun z=>by rw[eL] at z; cases z.2)]) _ P1
   refine zbc ?_
   refine⟨ns,ws,bs,eqs rows,P1 _ _ ha,P1 _ _ hb,net,sb,hg,l7,b9,p1 _ _ hp,by omega,hi',fun T2 m2 ds p2 lm2 h2 rowsT=>?_⟩
   have P2:Pre S T2:=fun x o z=>p2 _ _ (P1 _ _ z)
   have hp2:=p2 _ _ (p1 _ _ hp)
   refine zoY (S1:=T2) (n:=m2) (o:=.lst ds) (fun k ys S2=>Pre T2 S2∧S2[T2.length]?=some (.lst ys)∧ys.length=k∧Rows S2 (T2.length + 1) ys (((zbZ g bs ns rows).take k).map fun r=>r.map mid)) (fun K hK=>by exact hK) h2 (fun k ys S2 w=>⟨w.1 _ _ h2,w.2.1,w.2.2.1⟩) (by show ds.length≤1000; rw[rowsT.1,List.length_map]; omega) ⟨Pre.refl.push,zax _ _,rfl,by simpa using Rows.nil⟩ (fun k x ys S2 K hx w hK=>?_) (fun ys S2 w=>?_)
   ·obtain⟨y1,y2,y3,y4⟩:=w
    have hx':ds[k]?=some x:=hx
    have hk:k < (zbZ g bs ns rows).length:=by
     have:=(List.getElem?_eq_some_iff.mp hx').1
     rw[rowsT.1] at this
     exact this
    have hr:=List.getElem?_eq_getElem hk
    generalize (zbZ g bs ns rows)[k]=r at hr
    obtain⟨ar,rfl,_,har⟩:=rowsT.2 k x r hx' hr
    have zr':=zoI net sb hg hi' r (List.mem_of_getElem? hr)
    refine⟨r,y1 _ _ har,by rw[zr'.1]; omega,?_⟩
    have lt:=zbh y2
    refine hK _ _ (zaz y2) ⟨zhJ (zcs y1 _) (Nat.le_refl _),zcv (zaz y2),by simp[y3],?_⟩
    rw[zbT hr,List.map_append]
    refine Rows.snoc (y4.keep fun a o l q=>?_) (by omega) ?_
    ·exact zcA (zaz q) (by omega)
    ·refine zcA ?_ (by omega)
     have e:(r.map mid).map D.int=r.map fun p=>D.int (mid p):=by rw[List.map_map]; rfl
     rw[e]
     exact zax _ _
   obtain⟨y1,y2,y3,y4⟩:=w
   have e9:(zbZ g bs ns rows).take (zai (.lst ds)).length=zbZ g bs ns rows:=List.take_of_length_le (by show (zbZ g bs ns rows).length≤ds.length; rw[rowsT.1]; exact Nat.le_refl _)
   rw[e9] at y4
   have P3:Pre S S2:=fun x o z=>y1 _ _ (P2 _ _ z)
   have hn:bs.length - 1 + 1=bs.length:=by omega
   have sq:Sq (bs.length - 1 + 1) (za3 g bs ns rows):=⟨by unfold za3 zbZ; rw[List.length_map,List.length_map]; omega,fun r hr=>by
    obtain⟨x,hx,rfl⟩:=List.mem_map.mp hr
    rw[List.length_map,(zoI net sb hg hi' x hx).1,hn]⟩
   have bigM:Big (za3 g bs ns rows):=fun r hr x hx=>by
    obtain⟨z,hz,rfl⟩:=List.mem_map.mp hr
    obtain⟨p,hp,rfl⟩:=List.mem_map.mp hx
    have z2:=(zpw net sb hg hi' z hz).2 p hp
    exact(znx z2.1 z2.2).mono (by decide)
   refine⟨za3 g bs ns rows,bs.length - 1,by omega,⟨ys,y2,y4.low (Nat.zero_le _)⟩,sq,bigM,hg,fun dz=>?_,fun dz T4 k4 p4 mt=>?_⟩
   ·rw[hn] at dz
    exact hN (by unfold alS; rw[if_pos ⟨lq,eL⟩,if_pos dz]) _ P3
   rw[hn] at dz mt
   have P4:Pre S T4:=fun x o z=>p4 _ _ (P3 _ _ z)
   obtain⟨tds,ht,rowsM⟩:=mt
   refine⟨ns,ws,bs,eqs rows,P4 _ _ ha,P4 _ _ hb,net,sb,hg,l7,b9,p4 _ _ (y1 _ _ hp2),by omega,hi',fun T5 m5 p5 lm5 h5=>?_⟩
   have P5:Pre S T5:=fun x o z=>p5 _ _ (P4 _ _ z)
   have lI:=zqD (za3 g bs ns rows) (bs.length - 1) (zaI bs.length (za3 g bs ns rows)) g
   refine⟨bs,zed g bs ns rows,zbN (za3 g bs ns rows) (bs.length - 1) (zaI bs.length (za3 g bs ns rows)) g,tds,zbZ g bs ns rows,ds,p5 _ _ ht,rowsM.toI.pre p5,by omega,fun r hr=>⟨by have:=zpp r hr; omega,zrI sq bigM (by omega) dz hg r hr⟩,P5 _ _ hb,h5,p5 _ _ (p4 _ _ (y1 _ _ h2)),rowsT.pre fun x o z=>p5 _ _ (p4 _ _ (y1 _ _ z)),zoI net sb hg hi',bl,by unfold zbZ; rw[List.length_map]; omega,by unfold zed; rw[List.length_map]; omega,fun p hp=>⟨(sb p hp).2.1.mono (by decide),(sb p hp).2.2.mono (by decide)⟩,zuN net sb hg hi',hg,?_⟩
   refine⟨zc2 g bs ns rows (zbN (za3 g bs ns rows) (bs.length - 1) (zaI bs.length (za3 g bs ns rows)) g),bs,zax _ _,zaz (P5 _ _ hb),by unfold zc2; rw[List.length_mapIdx]; omega,?_⟩
   cases eD:zhv (zc2 g bs ns rows (zbN (za3 g bs ns rows) (bs.length - 1) (zaI bs.length (za3 g bs ns rows)) g)) bs
   ·refine zb2 ?_
    exact hN (by unfold alS; rw[if_pos ⟨lq,eL⟩,if_neg dz,if_neg (by rw[eD]; decide)]) _ (zcs P5 _)
   refine zbc ?_
   have:=zdy P5
   exact hY (zbN (za3 g bs ns rows) (bs.length - 1) (zaI bs.length (za3 g bs ns rows)) g) (zc2 g bs ns rows (zbN (za3 g bs ns rows) (bs.length - 1) (zaI bs.length (za3 g bs ns rows)) g)) (by unfold alS; rw[if_pos ⟨lq,eL⟩,if_neg dz,if_pos eD]) _ _ _ _ (zcs P5 _) (zaz (p5 _ _ ht)) ((rowsM.toI.pre p5).pre (zcs Pre.refl _)) (zax _ _) this
  ·exact h.elim⟩)
def zu9  (zjb:Df K mg "closer" zlv zgr)(zfF:Fk P w K mg base 12 "alone" zeB zeY)(zaH:mg "range"=none)(zbl:mg "list"=none):Fk P w K mg base 13 "closer" zgr zhy:=
 zjb.mk' (zau (k:=12) zjb.F zhk (ztf) fun cdv A outer s H E hr=>⟨_,(zaj (zay (i:=5) zhk.nd rfl (Or.inl rfl) (zcy (zaK zcL) rfl zbl Boot.«list» (zaa (dv 2) zab))) (zaj (zc1 (i:=6) PassesOwn.never rfl zhk.nd rfl (Or.inl rfl) rfl zaH (zaa (dv 4) zab) (zaj (zay (i:=7) zhk.nd rfl (Or.inl rfl) (zan zfF hr (zaa (dv 0) (zaa (dv 1) (zaa (dv 5) (zaa (dv 3) zab)))))) (zaj (zaS (zaO zov (dv 7) zdz (zaE _)) (zah (zap (dv 5))) zaT) (zah (zay (i:=5) zhk.nd rfl (Or.inl rfl) (zas (dv 7) zac (fun _ _=>rfl))))))) (zah (zap (dv 5))))),fun ds S Q ex h=>by
  unfold zhy at h
  split at h
  ·rename_i a r b g n
   obtain⟨ns,ws,bs,rows,k,rfl,k9,ha,hb,net,sb,hg,l7,b9,hr,r9,hi,bl,h⟩:=h
   have hi':∀i∈eqs rows,i < ns.length:=fun i him=>hi _ (zoJ him)
   refine zcO (zaC hb rfl) ?_
   dsimp only[zai]
   refine⟨⟨by omega,by omega⟩,fun t dl' S'=>t≤k∧Pre S S'∧∃(m:Nat) (cs:List (Int×Int)),S.length≤m∧S'[m]?=some (.lst (cs.map frD))∧cs.length=bs.length∧Spn 51 cs∧clS g ns rows (k - t) cs=clS g ns rows k bs∧∃u v:Option D,dl'=[some (.ref a),some (.ref r),some (.ref b),some (.int g),some (.int (k:Nat)),some (.ref m),u,v],⟨Nat.zero_le _,Pre.refl.push,_,bs,Nat.le_refl _,zax _ _,rfl,sb,rfl,_,_,rfl⟩,?_⟩
   rintro t dl' S' ⟨ht,pr,m,cs,lm,hm,lc,sc,ec,u,v,rfl⟩
   rw[Int.toNat_natCast]
   refine zcV (fun c=>?_) (fun c=>?_)
   ·have netc:zaG cs.length ns ws:=by rw[lc]; exact net
    obtain⟨d,hd⟩:∃d,k - t=d + 1:=⟨k - t - 1,by omega⟩
    rw[hd] at ec
    refine⟨ns,ws,cs,rows,pr _ _ ha,hm,netc,sc,hg,l7,by omega,pr _ _ hr,r9,hi,by omega,fun eN T pT=>?_,fun M near eS T m1 m2 ms pT h1 rI h2 lm2=>?_⟩
    ·have e:clS g ns rows (d + 1) cs=cs:=by
      show (match alS g cs ns rows with | none=>cs | some (_,near)=>clS g ns rows d near)=cs
      rw[eN]
     exact h _ _ (fun x o z=>pT _ _ (pr _ _ z)) lm (by rw[← ec,e]; exact pT _ _ hm)
    ·obtain⟨ln,_,sn⟩:=zqx eS (by omega) netc sc hg hi'
     have e:clS g ns rows (d + 1) cs=clS g ns rows d near:=by
      show (match alS g cs ns rows with | none=>cs | some (_,near)=>clS g ns rows d near)=_
      rw[eS]
     refine⟨by omega,fun x o z=>pT _ _ (pr _ _ z),m2,near,by have:=zdy pr; omega,h2,by omega,sn,?_,_,_,rfl⟩
     rw[show k - (t + 1)=d by omega,← e]
     exact ec
   ·have e:t=k:=by omega
    subst e
    rw[Nat.sub_self] at ec
    exact h _ _ pr lm (by rw[← ec]; exact hm)
  ·exact h.elim⟩)
def zxU  (zjZ:Df K mg "_law_factors" ziL zgw)(zcb:Fk P w K mg base 1 "_law_at" zel zeh)(zeO:Fk P w K mg base 1 "_law_lowest" zff zfT)(zaH:mg "range"=none)(zaA:mg "len"=none):Fk P w K mg base 2 "_law_factors" zgw zh1:=
 zjZ.mk' (zau (k:=1) zjZ.F zgx (zx0) fun cdv A outer s H E hr=>⟨_,(zaj (zay (i:=3) zgx.nd rfl (Or.inl rfl) (zcf zab)) (zaj (zc1 (i:=4) PassesOwn.never rfl zgx.nd rfl (Or.inl rfl) rfl zaH (zaa (zaP (zaK zbi) rfl zaA Boot.«len» (zaa (dv 1) zab)) zab) (zaj (zay (i:=5) zgx.nd rfl (Or.inl rfl) (zan zeO hr (zaa (zas (zaF (dv 1) (dv 4) (fun _ _=>rfl)) zac (fun _ _=>rfl)) (zaa (zas (zaF (dv 1) (dv 4) (fun _ _=>rfl)) zac (fun _ _=>rfl)) zab)))) (zaj (zay (i:=6) zgx.nd rfl (Or.inl rfl) (zan zcb hr (zaa (dv 0) (zaa (za1 (zaa zbB (zaa (zas (dv 5) zac (fun _ _=>rfl)) (zaa (zas (dv 5) zac (fun _ _=>rfl)) zab)))) zab)))) (zah (zcU (zcM (dv 3) (zan zcb hr (zaa (dv 0) (zaa (za1 (zaa zbB (zaa (dv 4) (zaa (dv 6) zab)))) zab))))))))) (zah (zap (dv 3))))),fun ds S Q ex h=>by
  unfold zh1 at h
  split at h
  ·rename_i a p g
   obtain⟨q,P,ns,ws,ha,hp,ap,net,hq,q4,l7,unk,zP,h⟩:=h
   have la:=zbh ha
   refine zbp (zaz hp) ?_
   rw[List.length_map]
   refine⟨⟨by omega,by omega⟩,fun k dl' S'=>k≤P.length∧(∃(fs:List Nat) (ns':List Nd) (ws':List Nat),Gr q a (2 * k) S ns ws S' ns' ws'∧S'[S.length]?=some (.lst (fs.map wtD))∧fs.length=k∧(∀f∈fs,Zr P ns' ws' 2 f))∧∃u4 u5 u6:Option D,dl'=[some (.ref a),some (.ref p),some (.int g),some (.ref S.length),u4,u5,u6],⟨Nat.zero_le _,⟨[],ns,ws,Gr.push net ha _,zax _ _,rfl,fun f hf=>by simp at hf⟩,_,_,_,rfl⟩,?_⟩
   rintro k dl' S' ⟨hk,⟨fs,ns',ws',gr,hF,lf,zf⟩,u4,u5,u6,rfl⟩
   rw[Int.toNat_natCast]
   refine zcV (fun c=>?_) (fun c=>?_)
   ·have kr:inR ((P.length:Nat):Int) (k:Int):=⟨by omega,by omega⟩
    have hp':=gr.kp _ _ (Ne.symm ap) hp
    have zk:=zP _ (zdN kr)
    have ln:=gr.ln
    refine zaD (o:=.lst (P.map frD)) hp' (za4 kr) ?_
    refine zaD (o:=.lst (P.map frD)) hp' (za4 kr) ?_
    refine⟨⟨by omega,Sz.of (n:=4000) (10 ^ 10) (by omega)⟩,fun t b b1 tg te tt tb=>?_⟩
    refine⟨q,.number t b,ns',ws',rfl,gr.nd,by omega,gr.net,⟨⟨b1,by omega⟩,tg,by omega⟩,show 1≤16 by decide,fun T j ns2 ws2 gr2 lj hj wj dj=>?_⟩
    have hkn:k < ns.length:=(List.getElem?_eq_some_iff.mp (unk k (by omega))).1
    have unkT:ns2[k]?=some (.unknown (k:Int)):=gr2.get (gr.get (unk k (by omega)))
    have lk:=(List.getElem?_eq_some_iff.mp unkT).1
    have wk:ws2.getD k 0=1:=(gr2.net.ok k _ unkT).2.1
    have wj':ws2.getD j 0=1:=wj
    have sl:=zbh hF
    have ln2:=gr2.ln
    refine zf5 (n:=S.length) (xs:=fs.map wtD) (fun K hK=>by exact hK) (gr2.kp _ _ (by omega) hF) (fun K hK=>?_) (by rw[List.length_map]; omega)
    refine⟨q,.minus k j,ns2,ws2,rfl,gr2.nd,by omega,gr2.net,⟨⟨by omega,by omega⟩,⟨by omega,by omega⟩⟩,?_,fun T2 j2 ns3 ws3 gr3 lj2 hj2 wj2 dj2=>?_⟩
    ·show ws2.getD ((k:Nat):Int).toNat 0 + ws2.getD ((j:Nat):Int).toNat 0≤16
     rw[Int.toNat_natCast,Int.toNat_natCast,wk,wj']
     decide
    ·have hF2:=gr3.kp _ _ (show S.length≠a by omega) (gr2.kp _ _ (by omega) hF)
     have w3:ws3.getD j2 0=2:=by
      rw[wj2]
      show ws2.getD ((k:Nat):Int).toNat 0 + ws2.getD ((j:Nat):Int).toNat 0=2
      rw[Int.toNat_natCast,Int.toNat_natCast,wk,wj']
     have zj2:(gt (zaq P ns3) (j2:Int)).1=0:=by
      rw[dj2 P]
      have a1:gt (zaq P ns2) (k:Int)=gt P (k:Int):=by
       rw[zo7 (P:=P) gr2.net unkT]
       rfl
      have a2:gt (zaq P ns2) (j:Int)=(t,b):=dj P
      show (gt (zaq P ns2) (k:Int)).1 * (gt (zaq P ns2) (j:Int)).2 - (gt (zaq P ns2) (j:Int)).1 * (gt (zaq P ns2) (k:Int)).2=0
      rw[a1,a2]
      show (gt P (k:Int)).1 * b - t * (gt P (k:Int)).2=0
      omega
     have gr4:Gr q a (2 * k + 1 + 1) S ns ws T2 ns3 ws3:=(gr.trans gr2).trans gr3
     refine hK _ _ hF2 ⟨by omega,⟨fs++[j2],ns3,ws3,(gr4.put (by omega) (Nat.le_refl _)).mono (by omega),by rw[List.map_append]; exact zcv hF2,by rw[List.length_append,lf]; rfl,fun f hf=>?_⟩,_,_,_,rfl⟩
     rcases List.mem_append.mp hf with w | w
     ·exact((zf f w).up gr2 gr.net).up gr3 gr2.net
     ·rw[List.mem_singleton.mp w]
      exact⟨lj2,by omega,zj2⟩
   ·have e:k=P.length:=by omega
    exact h _ _ fs ns' ws' (gr.mono (by omega)) hF (by omega) zf (Nat.le_refl _)
  ·exact h.elim⟩)
def zvL  (zjU:Df K mg "_law_whole" zkC zgS)(zbX:mg "isinstance"=none)(zdP:mg "bool"=none)(zcY:mg "int"=none)(zfq:Kit K "bool")(zeA:Kit K "int"):Fk P w K mg base 1 "_law_whole" zgS zgV:=
 zjU.mk' (zau (k:=0) zjU.F zwN (zxB) fun cdv A outer s H E hr=>⟨_,(zah (zap (zeS (znp zeA rfl zbX rfl zcY Boot.«int» (dv 0)) (zhY (zxp (znp zfq rfl zbX rfl zdP Boot.«bool» (dv 0))))))),fun ds S Q ex h=>by
  unfold zgV at h
  split at h
  ·exact h
  ·exact h.elim⟩)
def zyb  (ziN:Df K mg "_law_span" zkA zg7)(zlM:Fk P w K mg base 1 "_law_whole" zgS zgV)(zaA:mg "len"=none)(zbX:mg "isinstance"=none)(zdt:mg "tuple"=none)(zfW:Kit K "tuple"):Fk P w K mg base 2 "_law_span" zg7 zgT:=
 ziN.mk' (zau (k:=1) ziN.F zxO (zvd) fun cdv A outer s H E hr=>⟨_,(zaj (zaS (PDW.pt (zdu (zcr (zcF (znp zfW rfl zbX rfl zdt Boot.«tuple» (dv 0)))) (zef (zaO (zl7 hr) (zaP zbi rfl zaA Boot.«len» (zaa (dv 0) zab)) zac (zaE _))))) (zah (zap zck)) zaT) (zah (zap (zeS (zan zlM hr (zaa (zas (dv 0) zac (fun _ _=>rfl)) zab)) (zeS (zan zlM hr (zaa (zas (dv 0) zac (fun _ _=>rfl)) zab)) (zhY (zc8 zhh (zas (dv 0) zac (fun _ _=>rfl)) (zas (dv 0) zac (fun _ _=>rfl)) (zaE _)))))))),fun ds S Q ex h=>by
  unfold zgT at h
  split at h
  ·obtain⟨hab,h⟩:=h
   exact qt (Q:=Q) (decide_eq_true hab) h
  ·exact h.elim⟩)
def zwx  (zkR:Df K mg "_law_spans" zkv zg9)(znb:Fk P w K mg base 2 "_law_span" zg7 zgT)(zaA:mg "len"=none)(zbX:mg "isinstance"=none)(zbl:mg "list"=none):Fk P w K mg base 3 "_law_spans" zg9 zgf:=
 zkR.mk' (zau (k:=2) zkR.F zqz (zsn) fun cdv A outer s H E hr=>⟨_,(zaj (zaS (PDW.pt (zdu (zcr (zcF (zty (zv0 _) rfl zbX rfl zbl Boot.«list» (dv 0)))) (zef (zaO (zl7 hr) (zaP (zaK zbi) rfl zaA Boot.«len» (zaa (dv 0) zab)) (dv 1) (zaE _))))) (zah (zap zck)) zaT) (zaj (zmj (i:=2) PassesOwn.never rfl zqz.nd rfl (Or.inl rfl) (dv 0) (zah (zaS (zcr (zcF (zan znb hr (zaa (dv 2) zab)))) (zah (zap zck)) zaT))) (zah (zap zck)))),fun ds S Q ex h=>by
  unfold zgf at h
  split at h
  ·rename_i a m
   obtain⟨vs,h1,rfl,hp,h⟩:=h
   refine zuf (n:=a) (fun K hK=>by exact hK) h1 ?_
   refine zbc ?_
   refine zbp h1 ?_
   rw[List.length_map]
   refine ifN (fun c=>absurd rfl c) (fun _=>?_)
   refine zlt (n:=a) (o:=.lst (vs.map frD)) (fun k dl' S'=>S'=S∧∃u:Option D,dl'=[some (.ref a),some (.int (vs.length:Nat)),u]) ⟨rfl,_,rfl⟩ (fun k dl' S' w=>by rw[w.1]; exact h1) ?_ (fun dl' S' w=>by rw[w.1]; exact h)
   rintro k x dl' S' nx ct ex' ⟨rfl,u,rfl⟩ hn
   obtain⟨p,hpm,rfl⟩:=List.mem_map.mp (List.mem_of_getElem? ex')
   refine⟨hp p hpm,?_⟩
   exact hn _ _ ⟨rfl,_,rfl⟩
  ·exact h.elim⟩)
def zsZ  (zmx:Df K mg "_law_within" zja zhO)(zm5:Fk P w K mg base 3 "_law_spans" zg9 zgf)(zaH:mg "range"=none)(zaA:mg "len"=none):Fk P w K mg base 4 "_law_within" zhO zgo:=
 zmx.mk' (zau (k:=3) zmx.F zp2 (zv5) fun cdv A outer s H E hr=>⟨_,(zaj (zaS (zcr (zcF (zan zm5 hr (zaa (dv 0) (zaa (zaP (zaK zbi) rfl zaA Boot.«len» (zaa (dv 1) zab)) zab))))) (zah (zap zck)) zaT) (zaj (zc1 (i:=2) PassesOwn.never rfl zp2.nd rfl (Or.inl rfl) rfl zaH (zaa (zaP (zaK zbi) rfl zaA Boot.«len» (zaa (dv 1) zab)) zab) (zah (zaS (PDW.pt (zdu (zcr (zaO zhh (zas (zaF (dv 1) (dv 2) (fun _ _=>rfl)) zac (fun _ _=>rfl)) (zas (zaF (dv 0) (dv 2) (fun _ _=>rfl)) zac (fun _ _=>rfl)) (zaE _))) (zef (zcr (zaO zhh (zas (zaF (dv 0) (dv 2) (fun _ _=>rfl)) zac (fun _ _=>rfl)) (zas (zaF (dv 1) (dv 2) (fun _ _=>rfl)) zac (fun _ _=>rfl)) (zaE _)))))) (zah (zap zck)) zaT))) (zah (zap zck)))),fun ds S Q ex h=>by
  unfold zgo at h
  split at h
  ·rename_i f b
   obtain⟨us,vs,hu,hv,l,l9,ou,wi,h⟩:=h
   refine zbp hv ?_
   rw[List.length_map]
   refine⟨us,hu,by rw[l],ou,?_⟩
   refine zbc ?_
   refine zbp hv ?_
   rw[List.length_map]
   refine⟨⟨by omega,by omega⟩,fun k dl' S'=>S=S'∧k≤vs.length∧∃u:Option D,dl'=[some (.ref f),some (.ref b),u],⟨rfl,Nat.zero_le _,_,rfl⟩,?_⟩
   rintro k dl' S' ⟨rfl,hk,u,rfl⟩
   rw[Int.toNat_natCast]
   refine zcV (fun c=>?_) (fun c=>h)
   have kv:inR ((vs.length:Nat):Int) (k:Int):=⟨by omega,by omega⟩
   have ku:inR ((us.length:Nat):Int) (k:Int):=⟨by omega,by omega⟩
   obtain⟨w1,w2⟩:=wi k c
   refine zaD (o:=.lst (vs.map frD)) hv (za4 kv) ?_
   refine zaD (o:=.lst (us.map frD)) hu (za4 ku) ?_
   refine ifNF w1 ?_
   refine zaD (o:=.lst (us.map frD)) hu (za4 ku) ?_
   refine zaD (o:=.lst (vs.map frD)) hv (za4 kv) ?_
   refine ifNF w2 ?_
   exact⟨rfl,c,_,rfl⟩
  ·exact h.elim⟩)
def zvY  (zl5:Df K mg "_law_holds" zlq zhF):Fk P w K mg base 1 "_law_holds" zhF zgE:=
 zl5.mk' (zau (k:=0) zl5.F zwv (ztV) fun cdv A outer s H E hr=>⟨_,(zah (zap (zs8 zhh zhh (zam zaZ (zas (dv 0) zac (fun _ _=>rfl)) (zas (dv 1) zac (fun _ _=>rfl))) (zam zaZ (zas (dv 1) zac (fun _ _=>rfl)) (dv 2)) (zam zaZ (zas (dv 0) zac (fun _ _=>rfl)) (zas (dv 1) zac (fun _ _=>rfl)))))),fun ds S Q ex h=>by
  unfold zgE at h
  split at h
  ·rename_i l u a b g
   obtain⟨⟨s1,s2,s3,s4,s5⟩,h⟩:=h
   refine⟨zaR s1 s4,zaR s3 s5,?_⟩
   refine ifD (fun c=>?_) (fun c=>?_)
   ·refine⟨zaR s2 s4,?_⟩
    rw[decide_eq_true c,Bool.true_and] at h
    exact h
   ·rw[decide_eq_false c,Bool.false_and] at h
    exact h
  ·exact h.elim⟩)
def zsm  (zke:Df K mg "_law_kept" zlp zgk)(zkZ:Fk P w K mg base 1 "_law_holds" zhF zgE)(zaH:mg "range"=none)(zaA:mg "len"=none):Fk P w K mg base 2 "_law_kept" zgk ziC:=
 zke.mk' (zau (k:=1) zke.F zna (zu5) fun cdv A outer s H E hr=>⟨_,(zaj (zc1 (i:=4) PassesOwn.never rfl zna.nd rfl (Or.inl rfl) rfl zaH (zaa (zaP (zaK zbi) rfl zaA Boot.«len» (zaa (dv 1) zab)) zab) (zah (zaS (zcr (zcF (zan zkZ hr (zaa (zaF (dv 1) (dv 4) (fun _ _=>rfl)) (zaa (zaF (dv 2) (dv 4) (fun _ _=>rfl)) (zaa (dv 3) zab)))))) (zah (zap zck)) zaT))) (zaj (zc1 (i:=4) PassesOwn.never rfl zna.nd rfl (Or.inl rfl) rfl zaH (zaa (zaP (zaK zbi) rfl zaA Boot.«len» (zaa (dv 1) zab)) zab) (zah (zaS (zcr (zcF (zan zkZ hr (zaa (zaF (dv 0) (dv 4) (fun _ _=>rfl)) (zaa (zaF (dv 2) (dv 4) (fun _ _=>rfl)) (zaa (dv 3) zab)))))) (zah (zap zck)) zaT))) (zah (zap zck)))),fun ds S Q ex h=>by
  unfold ziC at h
  split at h
  ·rename_i f b p g
   obtain⟨us,vs,P,hu,hv,hp,l,lp,l9,zu,zv,zP,hg,imp,h⟩:=h
   have sg:Sz 30 g:=Sz.of 1000000 (by omega)
   have sz:∀ {xs:List (Int×Int)},Bd 60 xs→∀k:Nat,k < xs.length→Sz 60 (gt xs (k:Int)).1∧Sz 60 (gt xs (k:Int)).2:=fun {xs} z k hk=>z _ (zdN ⟨by omega,by omega⟩)
   refine zbp hv ?_
   rw[List.length_map]
   refine⟨⟨by omega,by omega⟩,fun k dl' S'=>S=S'∧k≤vs.length∧(∀j:Nat,j < k→(gt vs (j:Int)).1 * (gt P (j:Int)).2≤(gt P (j:Int)).1 * g∧(gt P (j:Int)).1 * g≤(gt vs (j:Int)).2 * (gt P (j:Int)).2)∧∃u:Option D,dl'=[some (.ref f),some (.ref b),some (.ref p),some (.int g),u],⟨rfl,Nat.zero_le _,fun j hj=>by omega,_,rfl⟩,?_⟩
   rintro k dl' S' ⟨rfl,hk,all,u,rfl⟩
   rw[Int.toNat_natCast]
   refine zcV (fun c=>?_) (fun c=>?_)
   ·refine zaD (o:=.lst (vs.map frD)) hv (za4 ⟨by omega,by omega⟩) ?_
    refine zaD (o:=.lst (P.map frD)) hp (za4 ⟨by omega,by omega⟩) ?_
    have z1:=sz zv k c
    have z2:=sz zP k (by omega)
    refine⟨⟨z1.1.mono (by decide),z1.2.mono (by decide),z2.1.mono (by decide),z2.2.mono (by decide),sg⟩,?_⟩
    cases e:(decide ((gt vs (k:Int)).1 * (gt P (k:Int)).2≤(gt P (k:Int)).1 * g) && decide ((gt P (k:Int)).1 * g≤(gt vs (k:Int)).2 * (gt P (k:Int)).2))
    ·refine zb2 ?_
     exact h
    ·refine zbc ?_
     simp only[Bool.and_eq_true,decide_eq_true_eq] at e
     refine⟨rfl,c,fun j hj=>?_,_,rfl⟩
     by_cases ej:j=k
     ·rw[ej]; exact e
     ·exact all j (by omega)
   ·have ek:k=vs.length:=by omega
    subst ek
    have inU:=imp fun j hj=>by
     have h0:=hj.1
     have h1:=hj.2
     have z:=all j.toNat (by omega)
     rw[show ((j.toNat:Nat):Int)=j by omega] at z
     exact z
    refine zbp hv ?_
    rw[List.length_map]
    refine⟨⟨by omega,by omega⟩,fun k dl' S'=>S=S'∧k≤vs.length∧∃u:Option D,dl'=[some (.ref f),some (.ref b),some (.ref p),some (.int g),u],⟨rfl,Nat.zero_le _,_,rfl⟩,?_⟩
    rintro k dl' S' ⟨rfl,hk,u,rfl⟩
    rw[Int.toNat_natCast]
    refine zcV (fun c=>?_) (fun c=>h)
    refine zaD (o:=.lst (us.map frD)) hu (za4 ⟨by omega,by omega⟩) ?_
    refine zaD (o:=.lst (P.map frD)) hp (za4 ⟨by omega,by omega⟩) ?_
    have z1:=sz zu k (by omega)
    have z2:=sz zP k (by omega)
    refine⟨⟨z1.1.mono (by decide),z1.2.mono (by decide),z2.1.mono (by decide),z2.2.mono (by decide),sg⟩,?_⟩
    have z3:=inU (k:Int) ⟨by omega,by omega⟩
    have e:(decide ((gt us (k:Int)).1 * (gt P (k:Int)).2≤(gt P (k:Int)).1 * g) && decide ((gt P (k:Int)).1 * g≤(gt us (k:Int)).2 * (gt P (k:Int)).2))=true:=by
     rw[Bool.and_eq_true,decide_eq_true_eq,decide_eq_true_eq]
     exact z3
    cases e2:(decide ((gt us (k:Int)).1 * (gt P (k:Int)).2≤(gt P (k:Int)).1 * g) && decide ((gt P (k:Int)).1 * g≤(gt us (k:Int)).2 * (gt P (k:Int)).2))
    ·rw[e2] at e
     cases e
    refine zbc ?_
    exact⟨rfl,c,_,rfl⟩
  ·exact h.elim⟩)
def zx2  (zlh:Df K mg "law" zdB zll)(zf3:Fk P w K mg base 4 "_law_within" zhO zgo)(zim:Fk P w K mg base 13 "closer" zgr zhy)(zfF:Fk P w K mg base 12 "alone" zeB zeY)(zmV:Fk P w K mg base 2 "_law_kept" zgk ziC)(zbn:Fk P w K mg base 1 "_law_cell" zdr zdC)(znC:Fk P w K mg base 3 "_law_rows" zha zgM)(znr:Fk P w K mg base 2 "_law_factors" zgw zh1)(zol:Fk P w K mg base 2 "_law_around" zh2 zgJ)(znD:Fk P w K mg base 2 "_law_point" zgu zgh)(znW:Fk P w K mg base 1 "_law_grid" zhG zii)(zbl:mg "list"=none)(zaH:mg "range"=none):Fk P w K mg base 14 "law" zll ze1:=
 zlh.mk' (zau (k:=13) zlh.F zby zsM fun cdv A outer s H E hr=>⟨_,(zaj (zay (i:=1) zby.nd rfl (Or.inl rfl) (zam zba zac (zam zbq (zan zbn hr (zaa (dv 0) (zaa zac zab))) zac))) (zaj (zay (i:=2) zby.nd rfl (Or.inl rfl) (zan znW hr (zaa (zan zbn hr (zaa (dv 0) (zaa zac zab))) zab))) (zaj (zay (i:=3) zby.nd rfl (Or.inl rfl) (zam zba zac (zam zbq (zam zb1 (zan zbn hr (zaa (dv 0) (zaa zac zab))) zac) zac))) (zaj (zay (i:=4) zby.nd rfl (Or.inl rfl) (zan znD hr (zaa (dv 0) (zaa (dv 1) (zaa (dv 2) (zaa (dv 3) zab)))))) (zaj (zay (i:=5) zby.nd rfl (Or.inl rfl) (zan zol hr (zaa (dv 0) (zaa (dv 4) (zaa (dv 3) (zaa (dv 2) zab)))))) (zaj (zo1 (x:="_law_k") (N:=[]) (caps:=[]) (ar:=zao zdB) rfl rfl csc rfl (by decide) (i:=6) zby.nd rfl rfl rfl zaH (zaa (dv 1) zab) (fun _ _ _ _ _ _=>zb9) (fun _ _ _ _ _ _=>(za1 (zaa zbB (zaa (dv 0) zab))))) (zaj (zay (i:=7) zby.nd rfl (Or.inl rfl) (zan znC hr (zaa (dv 0) (zaa (dv 6) (zaa (zan znr hr (zaa (dv 6) (zaa (dv 4) (zaa (dv 2) zab)))) zab))))) (zaj (zay (i:=8) zby.nd rfl (Or.inl rfl) (zam zbq (zan zbn hr (zaa (dv 0) (zaa zac zab))) zac)) (zaj (zay (i:=9) zby.nd rfl (Or.inl rfl) (zam zbq (zam zb1 (zan zbn hr (zaa (dv 0) (zaa zac zab))) zac) zac)) (zaj (zaS (zaO (zbe hr) (zam zbq (zan zbn hr (zaa (dv 0) (zaa zac zab))) zac) zac (zaE _)) (zaj (zay (i:=8) zby.nd rfl (Or.inl rfl) (zam zba zac (zam zbq (zam zb1 (zan zbn hr (zaa (dv 0) (zaa zac zab))) zac) zac))) (zah (zay (i:=9) zby.nd rfl (Or.inl rfl) (zam zbq (zam zb1 (zan zbn hr (zaa (dv 0) (zaa zac zab))) zac) zac)))) zaT) (zaj (zay (i:=10) zby.nd rfl (Or.inl rfl) (zcf (zaa (zcy (zaK zcL) rfl zbl Boot.«list» (zaa (dv 6) zab)) (zaa (zcy (zaK zcL) rfl zbl Boot.«list» (zaa (dv 7) zab)) (zaa (zcy (zaK zcL) rfl zbl Boot.«list» (zaa (dv 5) zab)) zab))))) (zaj (zay (i:=11) zby.nd rfl (Or.inl rfl) (zan zim hr (zaa (zaF (dv 10) zac (fun _ _=>rfl)) (zaa (zaF (dv 10) zac (fun _ _=>rfl)) (zaa (zaF (dv 10) zac (fun _ _=>rfl)) (zaa (dv 2) (zaa (dv 8) zab))))))) (zaj (zay (i:=12) zby.nd rfl (Or.inl rfl) (zan zim hr (zaa (zaF (dv 10) zac (fun _ _=>rfl)) (zaa (zaF (dv 10) zac (fun _ _=>rfl)) (zaa (zaF (dv 10) zac (fun _ _=>rfl)) (zaa (dv 2) (zaa (zam zba (dv 8) (dv 9)) zab))))))) (zaj (zay (i:=13) zby.nd rfl (Or.inl rfl) (zcy (zaK zcL) rfl zbl Boot.«list» (zaa (dv 11) zab))) (zaj (zcU (zcM (dv 11) (za1 (zaa zac (zaa zac zab))))) (zaj (zay (i:=11) zby.nd rfl (Or.inl rfl) (dv 13)) (zaj (zaS (PDW.pt (zdu (zaO (zwM hr) (dv 10) (zcf (zaa (dv 6) (zaa (dv 7) (zaa (dv 5) zab)))) (zaE _)) (zdu (zcr (zcF (zan zf3 hr (zaa (dv 11) (zaa (dv 5) zab))))) (zef (zcr (zcF (zan zf3 hr (zaa (dv 12) (zaa (dv 5) zab))))))))) (zah (zap zck)) zaT) (zaj (zaS (PDW.pt (zdu (zcr (zcF (zan zmV hr (zaa (dv 12) (zaa (dv 5) (zaa (dv 4) (zaa (dv 2) zab))))))) (zef (PDW.pt (zmC (zaO (zbe hr) (dv 8) zac (zaE _)) (zmS (zaO (zob hr) (dv 11) (dv 5) (zaE _)))))))) (zah (zap zck)) zaT) (zaj (zay (i:=14) zby.nd rfl (Or.inl rfl) (zan zfF hr (zaa (zcy (zaK zcL) rfl zbl Boot.«list» (zaa (dv 6) zab)) (zaa (zcy (zaK zcL) rfl zbl Boot.«list» (zaa (dv 7) zab)) (zaa (zcy (zaK zcL) rfl zbl Boot.«list» (zaa (dv 5) zab)) (zaa (dv 2) zab)))))) (zaj (zaS (PDW.pt (zdu (PDW.pt (zmC (zaO zov (dv 14) zdz (zaE _)) (zmS (zaO (zob hr) (dv 12) (dv 5) (zaE _))))) (zef (PDW.pt (zmC (zaO zxW (dv 14) zdz (zaE _)) (zmC (zaO (zbe hr) (dv 8) zac (zaE _)) (zmS (zaO (zob hr) (dv 11) (zas (dv 14) zac (fun _ _=>rfl)) (zaE _))))))))) (zah (zap zck)) zaT) (zaj (zay (i:=15) zby.nd rfl (Or.inl rfl) (zan zim hr (zaa (zcy (zaK zcL) rfl zbl Boot.«list» (zaa (dv 6) zab)) (zaa (zcy (zaK zcL) rfl zbl Boot.«list» (zaa (dv 7) zab)) (zaa (zcy (zaK zcL) rfl zbl Boot.«list» (zaa (dv 11) zab)) (zaa (dv 2) (zaa (dv 9) zab))))))) (zah (zap (zeS (zan zf3 hr (zaa (dv 15) (zaa (dv 5) zab))) (zhY (zc8 (zuU hr) (dv 15) (dv 12) (zaE _))))))))))))))))))))))))))),fun ds S Q ex h=>by
  obtain⟨ns,rfl,rfl,hl,h⟩:=h
  refine zpN (fun dl2 S2=>S2=[Ob.frz (ns.map D.int)]∧∃q:Nat,1≤q∧q≤2∧dl2=[some (.ref 0),some (.int (q:Nat)),none,none,none,none,none,none,none,none,none,none,none,none,none,none]) (fun nx hn=>?_) ?_
  ·refine⟨ns,rfl,by decide,?_⟩
   refine hn _ _ ⟨rfl,(1 + ns.getD (0:Int).toNat 0 % 2).toNat,by omega,by omega,?_⟩
   rw[show (((1 + ns.getD (0:Int).toNat 0 % 2).toNat:Nat):Int)=1 + ns.getD (0:Int).toNat 0 % 2 by omega]
   rfl
  rintro dl2 S2 ⟨rfl,q,q1,q2,rfl⟩
  refine⟨ns,rfl,by decide,?_⟩
  intro g hg g2
  refine⟨ns,rfl,by decide,?_⟩
  have W1:1≤(1 + ns.getD (2:Int).toNat 0 / 6 % 8):=by omega
  have W8:(1 + ns.getD (2:Int).toNat 0 / 6 % 8)≤8:=by omega
  refine⟨ns,q,rfl,⟨rfl,by omega⟩,⟨hg,g2⟩,⟨W1,W8⟩,fun T1 mp P p1 lmp hP lP zP=>?_⟩
  have h01:=p1 _ _ (show [Ob.frz (ns.map D.int)][0]?=some (.frz (ns.map D.int)) from rfl)
  refine⟨ns,P,h01,hP,by omega,fun x hx=>(zP x hx).2,⟨hg,g2⟩,⟨W1,W8⟩,fun T2 mb B p2 lmb hB lB zB=>?_⟩
  have h02:=p2 _ _ h01
  have hP2:=p2 _ _ hP
  have ltp:=zbh hP2
  have ltb:=zbh hB
  have mpb:mp < mb:=by have:=zbh hP; omega
  have mp0:1≤mp:=lmp
  clear p1 p2
  refine zmt (j:=(q:Nat)) (S1:=T2) (fun k=>.tup [.str "unknown",.int (k:Int)]) (fun K hK=>by exact hK) ⟨by omega,by omega⟩ (fun k hk S2 K pr hK=>by exact hK) ?_
  have eN:((List.range ((q:Nat):Int).toNat).map fun (k:Nat)=>D.tup [.str "unknown",.int (k:Int)])=((List.range q).map fun (k:Nat)=>Nd.unknown (k:Int)).map Nd.d:=by
   rw[List.map_map,Int.toNat_natCast]
   rfl
  rw[eN]
  have net0:=zwF q
  have gW:1≤g * (1 + ns.getD (2:Int).toNat 0 / 6 % 8)∧g * (1 + ns.getD (2:Int).toNat 0 / 6 % 8)≤10 ^ 9:=by
   have a:=Int.mul_le_mul g2 W8 (by omega) (by omega)
   have b:=Int.mul_pos (show 0 < g by omega) (show 0 < (1 + ns.getD (2:Int).toNat 0 / 6 % 8) by omega)
   omega
  have sP:∀p∈P,1≤p.2∧p.2≤10 ^ 9∧p.1.natAbs≤10 ^ 9:=fun p hp=>by
   have z:=zP p hp
   rw[z.1]
   omega
  refine⟨q,P,(List.range q).map fun (k:Nat)=>Nd.unknown (k:Int),(List.range q).map fun _=>1,zax _ _,zaz hP2,by omega,net0,lP.symm,by omega,by rw[List.length_map,List.length_range]; omega,fun k hk=>by rw[List.getElem?_map,List.getElem?_range hk]; rfl,sP,fun T3 mf fs ns3 ws3 gr3 hF lf zf lmf=>?_⟩
  have lmf':T2.length + 1≤mf:=by simpa using lmf
  have lnf:=zbh hF
  have ln3:=gr3.ln
  rw[List.length_map,List.length_range] at ln3
  have h03:=gr3.kp _ _ (show 0≠T2.length by omega) (zaz h02)
  have hP3:=gr3.kp _ _ (show mp≠T2.length by omega) (zaz hP2)
  have hB3:=gr3.kp _ _ (show mb≠T2.length by omega) (zaz hB)
  have net3:=gr3.net
  have hN3:=gr3.nd
  clear gr3
  refine⟨ns,q,P,ns3,ws3,fs,h03,hN3,hF,by omega,net3,⟨by omega,by omega⟩,by omega,zf,fun T4 mr rs xs wx gr4 hR lr zr lmr=>?_⟩
  have h04:=gr4.kp _ _ (show 0≠T2.length by omega) h03
  have hP4:=gr4.kp _ _ (show mp≠T2.length by omega) hP3
  have hB4:=gr4.kp _ _ (show mb≠T2.length by omega) hB3
  have netx:=gr4.net
  have hN4:=gr4.nd
  have lx:xs.length≤60:=by have:=gr4.ln; omega
  have eR:(rs.map fun i=>rwD (true,i))=(rs.map fun i=>((true,i):Bool×Nat)).map rwD:=by rw[List.map_map]; rfl
  rw[eR] at hR
  have lrr:(rs.map fun i=>((true,i):Bool×Nat)).length=q:=by rw[List.length_map,lr,lf]
  have okr:∀r∈(rs.map fun i=>((true,i):Bool×Nat)),r.2 < xs.length:=fun r hr=>by
   obtain⟨i,hi,rfl⟩:=List.mem_map.mp hr
   exact(zr i hi).lt
  have zer:∀i∈eqs (rs.map fun i=>((true,i):Bool×Nat)),i < xs.length∧(gt (zaq P xs) (i:Int)).1=0:=fun i hi=>by
   rw[zqv] at hi
   exact⟨(zr i hi).lt,(zr i hi).due⟩
  generalize (rs.map fun i=>((true,i):Bool×Nat))=rows at hR lrr okr zer
  have ltR:=zbh hR
  have ltN:=zbh hN4
  have lmr':mf < mr:=by omega
  clear gr4 zr eR lr zf hF
  try dsimp only[zh3]
  refine zrC (fun dl2 S2=>T4=S2∧∃f l:Nat,f≤30∧l≤30∧dl2=[some (.ref 0),some (.int (q:Nat)),some (.int g),some (.int (1 + ns.getD (2:Int).toNat 0 / 6 % 8)),some (.ref mp),some (.ref mb),some (.ref T2.length),some (.ref mr),some (.int (f:Nat)),some (.int (l:Nat)),none,none,none,none,none,none]) (fun nx hn=>?_) ?_
  ·refine⟨ns,h04,by decide,?_⟩
   refine⟨ns,h04,by decide,?_⟩
   refine⟨ns,h04,by decide,?_⟩
   refine ifD (fun e=>?_) (fun e=>?_)
   ·refine⟨ns,h04,by decide,?_⟩
    refine⟨ns,h04,by decide,?_⟩
    refine hn _ _ ⟨rfl,(3 + ns.getD (16:Int).toNat 0 / 4 % 18).toNat,(ns.getD (16:Int).toNat 0 / 72 % 11).toNat,by omega,by omega,?_⟩
    rw[show (((3 + ns.getD (16:Int).toNat 0 / 4 % 18).toNat:Nat):Int)=3 + ns.getD (16:Int).toNat 0 / 4 % 18 by omega,show (((ns.getD (16:Int).toNat 0 / 72 % 11).toNat:Nat):Int)=ns.getD (16:Int).toNat 0 / 72 % 11 by omega]
    rfl
   ·refine hn _ _ ⟨rfl,(ns.getD (2:Int).toNat 0 % 3).toNat,(ns.getD (2:Int).toNat 0 / 3 % 2).toNat,by omega,by omega,?_⟩
    rw[show (((ns.getD (2:Int).toNat 0 % 3).toNat:Nat):Int)=ns.getD (2:Int).toNat 0 % 3 by omega,show (((ns.getD (2:Int).toNat 0 / 3 % 2).toNat:Nat):Int)=ns.getD (2:Int).toNat 0 / 3 % 2 by omega]
    rfl
  rintro dl2 S2 ⟨rfl,f,l,f30,l30,rfl⟩
  have sb:Spn 51 B:=fun p hp=>⟨(zB p hp).1,Sz.of (n:=51) (10 ^ 15) (by have:=(zB p hp).2.1; omega),Sz.of (n:=51) (10 ^ 15) (by have:=(zB p hp).2.2; omega)⟩
  have netB:zaG B.length xs wx:=by rw[lB,lP]; exact netx
  have zp:Pz 110 P:=fun p hp=>by
   have z:=sP p hp
   exact⟨z.1,Sz.of (n:=110) (10 ^ 9) (by omega),Sz.of (n:=110) (10 ^ 9) (by omega)⟩
  have pt:∀j:Int,inR P.length j→(gt P j).2=g * (1 + ns.getD (2:Int).toNat 0 / 6 % 8):=fun j hj=>(zP _ (zdN hj)).1
  have hi':∀i∈eqs rows,i < xs.length:=fun i hi=>(zer i hi).1
  have clok:=fun k=>zoM (rows:=rows) ⟨hg,g2⟩ ⟨W1,by omega⟩ hi' (fun i hi=>(zer i hi).2) zp pt k B netB (by omega) (by omega) sb
  refine zcO (zaC hN4 rfl) ?_
  refine zcO (zaC (zaz hR) rfl) ?_
  refine zcO (zaC (zaz (zaz hB4)) rfl) ?_
  dsimp only[zai]
  have A1:(T4++[Ob.lst (xs.map Nd.d)]++[Ob.lst (rows.map rwD)]++[Ob.lst (B.map frD)])[T4.length]?=some (.lst (xs.map Nd.d)):=zaz (zaz (zax _ _))
  have A2:(T4++[Ob.lst (xs.map Nd.d)]++[Ob.lst (rows.map rwD)]++[Ob.lst (B.map frD)])[(T4++[Ob.lst (xs.map Nd.d)]).length]?=some (.lst (rows.map rwD)):=zaz (zax _ _)
  have A3:(T4++[Ob.lst (xs.map Nd.d)]++[Ob.lst (rows.map rwD)]++[Ob.lst (B.map frD)])[(T4++[Ob.lst (xs.map Nd.d)]++[Ob.lst (rows.map rwD)]).length]?=some (.lst (B.map frD)):=zax _ _
  have pu:Pre T4 (T4++[Ob.lst (xs.map Nd.d)]++[Ob.lst (rows.map rwD)]++[Ob.lst (B.map frD)]):=zcs (zcs (zcs Pre.refl _) _) _
  have B1:=pu _ _ hN4
  have B2:=pu _ _ hR
  have B3:=pu _ _ hB4
  have B4:=pu _ _ hP4
  generalize (T4++[Ob.lst (xs.map Nd.d)]).length=i2 at A2 ⊢
  generalize (T4++[Ob.lst (xs.map Nd.d)]++[Ob.lst (rows.map rwD)]).length=i3 at A3 ⊢
  generalize T4.length=i1 at A1 ⊢
  clear pu hN4 hR hB4 hP4
  generalize T4++[Ob.lst (xs.map Nd.d)]++[Ob.lst (rows.map rwD)]++[Ob.lst (B.map frD)]=V at A1 A2 A3 B1 B2 B3 B4 ⊢
  have H:=zax V (.lst [.ref i1,.ref i2,.ref i3])
  refine zaD (o:=.lst [.ref i1,.ref i2,.ref i3]) H (d:=.ref i1) rfl ?_
  refine zaD (o:=.lst [.ref i1,.ref i2,.ref i3]) H (d:=.ref i2) rfl ?_
  refine zaD (o:=.lst [.ref i1,.ref i2,.ref i3]) H (d:=.ref i3) rfl ?_
  have pV:Pre V (V++[Ob.lst [.ref i1,.ref i2,.ref i3]]):=Pre.refl.push
  have lV:(V++[Ob.lst [.ref i1,.ref i2,.ref i3]]).length=V.length + 1:=by simp
  have bl:1≤B.length∧B.length≤4:=⟨by omega,by omega⟩
  refine⟨xs,wx,B,rows,f,rfl,by omega,pV _ _ A1,pV _ _ A3,netB,sb,⟨hg,g2⟩,by omega,by omega,pV _ _ A2,by omega,okr,bl,fun Ts ms ps lms hs=>?_⟩
  have H':=ps _ _ H
  have pS:Pre V Ts:=fun x o e=>ps _ _ (pV _ _ e)
  have lts:=zbh hs
  refine zaD (o:=.lst [.ref i1,.ref i2,.ref i3]) H' (d:=.ref i1) rfl ?_
  refine zaD (o:=.lst [.ref i1,.ref i2,.ref i3]) H' (d:=.ref i2) rfl ?_
  refine zaD (o:=.lst [.ref i1,.ref i2,.ref i3]) H' (d:=.ref i3) rfl ?_
  refine⟨xs,wx,B,rows,f + l,show (f:Int) + (l:Int)=((f + l:Nat):Int) by omega,by omega,pS _ _ A1,pS _ _ A3,netB,sb,⟨hg,g2⟩,by omega,by omega,pS _ _ A2,by omega,okr,bl,fun Te me pe lme he=>?_⟩
  have pE:Pre V Te:=fun x o e=>pe _ _ (pS _ _ e)
  have lte:=zbh he
  refine zcO (zaC (pe _ _ hs) rfl) ?_
  dsimp only[zai]
  refine zd5 (n:=ms) (S1:=Te++[.lst ((clS g xs rows f B).map frD)]) (xs:=(clS g xs rows f B).map frD) (y:=frD (0,0)) (fun K hK=>by exact hK) (zaz (pe _ _ hs)) (fun K hK=>by exact hK) (by rw[List.length_map,(clok f).1]; omega) ?_
  have lVT:=zdy pE
  have lSE:=zdy pe
  have up:∀ {x:Nat} {o:Ob},V[x]?=some o→((Te++[Ob.lst ((clS g xs rows f B).map frD)]).set ms (.lst ((clS g xs rows f B).map frD++[frD (0,0)])))[x]?=some o:=fun {x o} e=>zcA (zaz (pE _ _ e)) (by have:=zbh e; omega)
  have HU:((Te++[Ob.lst ((clS g xs rows f B).map frD)]).set ms (.lst ((clS g xs rows f B).map frD++[frD (0,0)])))[V.length]?=some (.lst [.ref i1,.ref i2,.ref i3]):=zcA (zaz (pe _ _ H')) (by omega)
  have hE:((Te++[Ob.lst ((clS g xs rows f B).map frD)]).set ms (.lst ((clS g xs rows f B).map frD++[frD (0,0)])))[me]?=some (.lst ((clS g xs rows (f + l) B).map frD)):=zcA (zaz he) (by omega)
  have hK:((Te++[Ob.lst ((clS g xs rows f B).map frD)]).set ms (.lst ((clS g xs rows f B).map frD++[frD (0,0)])))[Te.length]?=some (.lst ((clS g xs rows f B).map frD)):=zcA (zax _ _) (by omega)
  have A1:=up A1
  have A2:=up A2
  have A3:=up A3
  have B1:=up B1
  have B2:=up B2
  have B3:=up B3
  have B4:=up B4
  clear up pE pS pe ps pV H H' he hs
  generalize (Te++[Ob.lst ((clS g xs rows f B).map frD)]).set ms (.lst ((clS g xs rows f B).map frD++[frD (0,0)]))=U at A1 A2 A3 B1 B2 B3 B4 HU hE hK ⊢
  generalize Te.length=mk at hK ⊢
  generalize V.length=mh at HU ⊢
  have al:∀(k:Nat) (d e:D),[D.ref i1,.ref i2,.ref i3][k]?=some d→[D.ref T2.length,.ref mr,.ref mb][k]?=some e→∃a b ys zs,d=.ref a∧e=.ref b∧(U++[Ob.lst [.ref T2.length,.ref mr,.ref mb]])[a]?=some (.lst ys)∧(U++[Ob.lst [.ref T2.length,.ref mr,.ref mb]])[b]?=some (.lst zs)∧eqL (eqN 1) ys zs=some true:=fun k d e hd he=>by
   match k with
   | 0=>
    cases hd; cases he
    exact⟨_,_,_,_,rfl,rfl,zaz A1,zaz B1,zpq _⟩
   | 1=>
    cases hd; cases he
    exact⟨_,_,_,_,rfl,rfl,zaz A2,zaz B2,zoL _⟩
   | 2=>
    cases hd; cases he
    exact⟨_,_,_,_,rfl,rfl,zaz A3,zaz B3,zeM _⟩
   | k + 3=>simp at hd
  refine zuG (ds:=[.ref i1,.ref i2,.ref i3]) (es:=[.ref T2.length,.ref mr,.ref mb]) (zaz HU) (zax _ _) rfl al ?_
  refine zbc ?_
  clear al HU A1 A2 A3
  have pW:Pre U (U++[Ob.lst [.ref T2.length,.ref mr,.ref mb]]):=Pre.refl.push
  have B1:=pW _ _ B1
  have B2:=pW _ _ B2
  have B3:=pW _ _ B3
  have B4:=pW _ _ B4
  have hE:=pW _ _ hE
  have hK:=pW _ _ hK
  generalize U++[Ob.lst [.ref T2.length,.ref mr,.ref mb]]=U2 at B1 B2 B3 B4 hE hK ⊢
  refine⟨clS g xs rows f B,B,hK,B3,(clok f).1,by omega,fun p hp=>((clok f).2.1 p hp).1,fun k hk=>(clok f).2.2.1 k hk,?_⟩
  refine zbc ?_
  refine⟨clS g xs rows (f + l) B,B,hE,B3,(clok (f + l)).1,by omega,fun p hp=>((clok (f + l)).2.1 p hp).1,fun k hk=>(clok (f + l)).2.2.1 k hk,?_⟩
  refine zbc ?_
  have bd:∀ {us:List (Int×Int)},Spn 51 us→Bd 60 us:=fun z p hp=>⟨(z p hp).2.1.mono (by decide),(z p hp).2.2.mono (by decide)⟩
  have bdP:Bd 60 P:=fun p hp=>⟨Sz.of (n:=60) (10 ^ 9) (by have:=sP p hp; omega),Sz.of (n:=60) (10 ^ 9) (by have:=sP p hp; omega)⟩
  try dsimp only[zh3]
  refine zpN (fun dl2 S2=>U2=S2∧dl2=[some (.ref 0),some (.int (q:Nat)),some (.int g),some (.int (1 + ns.getD (2:Int).toNat 0 / 6 % 8)),some (.ref mp),some (.ref mb),some (.ref T2.length),some (.ref mr),some (.int (f:Nat)),some (.int (l:Nat)),some (.ref mh),some (.ref mk),some (.ref me),some (.ref mk),none,none]) (fun nx hn=>?_) ?_
  ·refine⟨clS g xs rows (f + l) B,B,P,hE,B3,B4,(clok (f + l)).1,by omega,by omega,bd (clok (f + l)).2.1,bd sb,bdP,⟨hg,g2⟩,(clok (f + l)).2.2.2,?_⟩
   refine zbc ?_
   refine ifD (fun e=>?_) (fun e=>?_)
   ·have f0:f=0:=by omega
    subst f0
    refine zm9 (zaC hK rfl) (zaC B3 rfl) (zeM B) ?_
    refine zbc ?_
    exact hn _ _ ⟨rfl,rfl⟩
   ·refine zbc ?_
    exact hn _ _ ⟨rfl,rfl⟩
  rintro dl2 S2 ⟨rfl,rfl⟩
  try dsimp only[zh3]
  refine zpZ (fun dl2 S2=>Pre U2 S2∧∃u:Option D,dl2=[some (.ref 0),some (.int (q:Nat)),some (.int g),some (.int (1 + ns.getD (2:Int).toNat 0 / 6 % 8)),some (.ref mp),some (.ref mb),some (.ref T2.length),some (.ref mr),some (.int (f:Nat)),some (.int (l:Nat)),some (.ref mh),some (.ref mk),some (.ref me),some (.ref mk),u,none]) (fun nx hn=>?_) ?_
  ·refine zcO (zaC B1 rfl) ?_
   refine zcO (zaC (zaz B2) rfl) ?_
   refine zcO (zaC (zaz (zaz B3)) rfl) ?_
   dsimp only[zai]
   have p3:Pre U2 (U2++[Ob.lst (xs.map Nd.d)]++[Ob.lst (rows.map rwD)]++[Ob.lst (B.map frD)]):=zcs (zcs (zcs Pre.refl _) _) _
   refine⟨xs,wx,B,rows,zaz (zaz (zax _ _)),zax _ _,netB,sb,⟨hg,g2⟩,by omega,by omega,zaz (zax _ _),by omega,okr,bl,fun eN T pT=>?_,fun M near eS T m n ms pT h1 rI h2 _=>?_⟩
   ·have pT':Pre U2 T:=fun x o e=>pT _ _ (p3 _ _ e)
    have z:clS g xs rows (f + l) B=B:=by
     cases hfl:f + l with
     | zero=>rfl
     | succ n=>
      show (match alS g B xs rows with | none=>B | some (_,near)=>clS g xs rows n near)=B
      rw[eN]
    rw[z] at hE
    refine zm9 (zaC (pT' _ _ hE) rfl) (zaC (pT' _ _ B3) rfl) (zeM B) ?_
    refine zbc ?_
    exact hn _ _ ⟨pT',_,rfl⟩
   ·have pT':Pre U2 T:=fun x o e=>pT _ _ (p3 _ _ e)
    refine ifD (fun e=>?_) (fun e=>?_)
    ·have f1:f=1:=by omega
     subst f1
     have z:clS g xs rows 1 B=near:=by
      show (match alS g B xs rows with | none=>B | some (_,near)=>clS g xs rows 0 near)=near
      rw[eS]
      rfl
     rw[z] at hK
     refine zm9 (zaC (pT' _ _ hK) rfl) (zaC h2 rfl) (zeM near) ?_
     refine zbc ?_
     exact hn _ _ ⟨pT',_,rfl⟩
    ·refine zbc ?_
     exact hn _ _ ⟨pT',_,rfl⟩
  rintro dl2 S2 ⟨pT,u,rfl⟩
  have hK2:=pT _ _ hK
  have hE2:=pT _ _ hE
  have B1:=pT _ _ B1
  have B2:=pT _ _ B2
  have B3:=pT _ _ B3
  refine zcO (zaC B1 rfl) ?_
  refine zcO (zaC (zaz B2) rfl) ?_
  refine zcO (zaC (zaz (zaz hK2)) rfl) ?_
  dsimp only[zai]
  have cf:=clok f
  refine⟨xs,wx,clS g xs rows f B,rows,l,rfl,by omega,zaz (zaz (zax _ _)),zax _ _,by rw[cf.1]; exact netB,cf.2.1,⟨hg,g2⟩,by omega,by omega,zaz (zax _ _),by omega,okr,by omega,fun Ta ma pa lma ha=>?_⟩
  rw[← zpy] at ha
  have p4:Pre S2 Ta:=fun x o e=>pa _ _ (zaz (zaz (zaz e)))
  refine⟨clS g xs rows (f + l) B,B,ha,p4 _ _ B3,(clok (f + l)).1,by omega,fun p hp=>((clok (f + l)).2.1 p hp).1,fun k hk=>(clok (f + l)).2.2.1 k hk,?_⟩
  refine zvz ha (p4 _ _ hE2) (zeM _) ?_
  exact h _⟩)
end
theorem zuM {l:PySem.W.OpenLaw}{w:World}{K:PySem.W.Frag}{h:Heap}{mg:Str→Option Value}{fa:Addr}(X:K.In h)(G:h.Ns mainGlobals mg)(hfa:mg "law"=some (.ref fa))
  {zcl:Addr}(zj1:PySem.W.nsIn K mainGlobals "Number"=some (some (.ref zcl)))(zkI:PySem.W.plainGet K zcl Str.empty=true)(zjJ:PySem.W.hasDictIn K zcl=true)(zkF:PySem.W.plainOver K zcl=true)(zlR:PySem.W.findIn K (.ref zcl) "__setattr__"=some (some (.builtin "object.__setattr__")))(zlb:PySem.W.makesIn K zcl=true)(zlS:PySem.W.keepIn K (.ref zcl)=true)
  (zjk:PySem.W.findIn K (.ref zcl) "bottom"=some none)
  (zl4:PySem.W.findIn K (.ref zcl) "top"=some none)
  {zcu:Addr}(ziS:PySem.W.nsIn K mainGlobals "Unknown"=some (some (.ref zcu)))(zj0:PySem.W.plainGet K zcu Str.empty=true)(zkG:PySem.W.hasDictIn K zcu=true)(zmw:PySem.W.plainOver K zcu=true)(zkX:PySem.W.findIn K (.ref zcu) "__setattr__"=some (some (.builtin "object.__setattr__")))(zjN:PySem.W.makesIn K zcu=true)(zjQ:PySem.W.keepIn K (.ref zcu)=true)
  (zjR:PySem.W.findIn K (.ref zcu) "place"=some none)
  {zb4:Addr}(zjr:PySem.W.nsIn K mainGlobals "Plus"=some (some (.ref zb4)))(zjp:PySem.W.plainGet K zb4 Str.empty=true)(zkc:PySem.W.hasDictIn K zb4=true)(zlK:PySem.W.plainOver K zb4=true)(zkD:PySem.W.findIn K (.ref zb4) "__setattr__"=some (some (.builtin "object.__setattr__")))(zmO:PySem.W.makesIn K zb4=true)(zjK:PySem.W.keepIn K (.ref zb4)=true)
  (zlF:PySem.W.findIn K (.ref zb4) "other"=some none)
  (zk6:PySem.W.findIn K (.ref zb4) "one"=some none)
  {zca:Addr}(zkY:PySem.W.nsIn K mainGlobals "Minus"=some (some (.ref zca)))(zjH:PySem.W.plainGet K zca Str.empty=true)(zmQ:PySem.W.hasDictIn K zca=true)(zje:PySem.W.plainOver K zca=true)(zmz:PySem.W.findIn K (.ref zca) "__setattr__"=some (some (.builtin "object.__setattr__")))(zj3:PySem.W.makesIn K zca=true)(zkt:PySem.W.keepIn K (.ref zca)=true)
  (zmo:PySem.W.findIn K (.ref zca) "other"=some none)
  (zkj:PySem.W.findIn K (.ref zca) "one"=some none)
  {zcd:Addr}(zkE:PySem.W.nsIn K mainGlobals "Times"=some (some (.ref zcd)))(zjw:PySem.W.plainGet K zcd Str.empty=true)(zld:PySem.W.hasDictIn K zcd=true)(zkq:PySem.W.plainOver K zcd=true)(ziK:PySem.W.findIn K (.ref zcd) "__setattr__"=some (some (.builtin "object.__setattr__")))(zjG:PySem.W.makesIn K zcd=true)(zlc:PySem.W.keepIn K (.ref zcd)=true)
  (zjf:PySem.W.findIn K (.ref zcd) "other"=some none)
  (zkV:PySem.W.findIn K (.ref zcd) "one"=some none)
  {zco:Addr}(zk4:PySem.W.nsIn K mainGlobals "Power"=some (some (.ref zco)))(zlH:PySem.W.plainGet K zco Str.empty=true)(zmg:PySem.W.hasDictIn K zco=true)(zkO:PySem.W.plainOver K zco=true)(zlu:PySem.W.findIn K (.ref zco) "__setattr__"=some (some (.builtin "object.__setattr__")))(zkS:PySem.W.makesIn K zco=true)(ziQ:PySem.W.keepIn K (.ref zco)=true)
  (zjy:PySem.W.findIn K (.ref zco) "many"=some none)
  (zj8:PySem.W.findIn K (.ref zco) "one"=some none)
  {f0 h0:Addr}{m0:Value}(a0:nsA K "_law_grid" f0)(l0:lkA K f0 "_law_grid" "_law_grid" zkx m0 h0)(c0:cdA K h0 "_law_grid")
  {f1 h1:Addr}{m1:Value}(a1:nsA K "_law_cell" f1)(l1:lkA K f1 "_law_cell" "_law_cell" zj6 m1 h1)(c1:cdA K h1 "_law_cell")
  {f2 h2:Addr}{m2:Value}(a2:nsA K "_law_point" f2)(l2:lkA K f2 "_law_point" "_law_point" zlI m2 h2)(c2:cdA K h2 "_law_point")
  {f3 h3:Addr}{m3:Value}(a3:nsA K "_law_around" f3)(l3:lkA K f3 "_law_around" "_law_around" zlV m3 h3)(c3:cdA K h3 "_law_around")
  {f4 h4:Addr}{m4:Value}(a4:nsA K "_law_lowest" f4)(l4:lkA K f4 "_law_lowest" "_law_lowest" zmF m4 h4)(c4:cdA K h4 "_law_lowest")
  {f5 h5:Addr}{m5:Value}(a5:nsA K "_law_at" f5)(l5:lkA K f5 "_law_at" "_law_at" zli m5 h5)(c5:cdA K h5 "_law_at")
  {f6 h6:Addr}{m6:Value}(a6:nsA K "_law_sum" f6)(l6:lkA K f6 "_law_sum" "_law_sum" zmJ m6 h6)(c6:cdA K h6 "_law_sum")
  {f7 h7:Addr}{m7:Value}(a7:nsA K "_law_rows" f7)(l7:lkA K f7 "_law_rows" "_law_rows" zlm m7 h7)(c7:cdA K h7 "_law_rows")
  {f8 h8:Addr}{m8:Value}(a8:nsA K "equation_places" f8)(l8:lkA K f8 "equation_places" "equation_places" zg4 m8 h8)(c8:cdA K h8 "equation_places")
  {f9 h9:Addr}{m9:Value}(a9:nsA K "picked" f9)(l9:lkA K f9 "picked" "picked" zhu m9 h9)(c9:cdA K h9 "picked")
  {f10 h10:Addr}{m10:Value}(a10:nsA K "less" f10)(l10:lkA K f10 "less" "less" zj7 m10 h10)(c10:cdA K h10 "less")
  {f11 h11:Addr}{m11:Value}(a11:nsA K "rounded_up" f11)(l11:lkA K f11 "rounded_up" "rounded_up" zkJ m11 h11)(c11:cdA K h11 "rounded_up")
  {f12 h12:Addr}{m12:Value}(a12:nsA K "span_of" f12)(l12:lkA K f12 "span_of" "span_of" ziI m12 h12)(c12:cdA K h12 "span_of")
  {f13 h13:Addr}{m13:Value}(a13:fdA K zcl "forth" f13)(l13:lkA K f13 "forth" "Number.forth" zmd m13 h13)(c13:cdA K h13 "Number.forth")
  {f14 h14:Addr}{m14:Value}(a14:fdA K zcu "forth" f14)(l14:lkA K f14 "forth" "Unknown.forth" zlG m14 h14)(c14:cdA K h14 "Unknown.forth")
  {f15 h15:Addr}{m15:Value}(a15:nsA K "add_spans" f15)(l15:lkA K f15 "add_spans" "add_spans" zjo m15 h15)(c15:cdA K h15 "add_spans")
  {f16 h16:Addr}{m16:Value}(a16:fdA K zb4 "forth" f16)(l16:lkA K f16 "forth" "Plus.forth" zlC m16 h16)(c16:cdA K h16 "Plus.forth")
  {f17 h17:Addr}{m17:Value}(a17:nsA K "take_spans" f17)(l17:lkA K f17 "take_spans" "take_spans" zkn m17 h17)(c17:cdA K h17 "take_spans")
  {f18 h18:Addr}{m18:Value}(a18:fdA K zca "forth" f18)(l18:lkA K f18 "forth" "Minus.forth" zku m18 h18)(c18:cdA K h18 "Minus.forth")
  {f19 h19:Addr}{m19:Value}(a19:nsA K "mul_spans" f19)(l19:lkA K f19 "mul_spans" "mul_spans" zjE m19 h19)(c19:cdA K h19 "mul_spans")
  {f20 h20:Addr}{m20:Value}(a20:fdA K zcd "forth" f20)(l20:lkA K f20 "forth" "Times.forth" zlD m20 h20)(c20:cdA K h20 "Times.forth")
  {f21 h21:Addr}{m21:Value}(a21:nsA K "raised" f21)(l21:lkA K f21 "raised" "raised" zma m21 h21)(c21:cdA K h21 "raised")
  {f22 h22:Addr}{m22:Value}(a22:nsA K "raise_span" f22)(l22:lkA K f22 "raise_span" "raise_span" zhI m22 h22)(c22:cdA K h22 "raise_span")
  {f23 h23:Addr}{m23:Value}(a23:fdA K zco "forth" f23)(l23:lkA K f23 "forth" "Power.forth" zmi m23 h23)(c23:cdA K h23 "Power.forth")
  {f24 h24:Addr}{m24:Value}(a24:fdA K zco "__init__" f24)(l24:lkA K f24 "__init__" "Power.__init__" zmc m24 h24)(c24:cdA K h24 "Power.__init__")
  {f25 h25:Addr}{m25:Value}(a25:fdA K zcl "__init__" f25)(l25:lkA K f25 "__init__" "Number.__init__" zmu m25 h25)(c25:cdA K h25 "Number.__init__")
  {f26 h26:Addr}{m26:Value}(a26:fdA K zcu "__init__" f26)(l26:lkA K f26 "__init__" "Unknown.__init__" zkg m26 h26)(c26:cdA K h26 "Unknown.__init__")
  {f27 h27:Addr}{m27:Value}(a27:fdA K zb4 "__init__" f27)(l27:lkA K f27 "__init__" "Pair.__init__" zkf m27 h27)(c27:cdA K h27 "Pair.__init__")
  {f28 h28:Addr}{m28:Value}(a28:fdA K zca "__init__" f28)(l28:lkA K f28 "__init__" "Pair.__init__" zlN m28 h28)(c28:cdA K h28 "Pair.__init__")
  {f29 h29:Addr}{m29:Value}(a29:fdA K zcd "__init__" f29)(l29:lkA K f29 "__init__" "Pair.__init__" zl2 m29 h29)(c29:cdA K h29 "Pair.__init__")
  {f30 h30:Addr}{m30:Value}(a30:nsA K "kind_of" f30)(l30:lkA K f30 "kind_of" "kind_of" zl3 m30 h30)(c30:cdA K h30 "kind_of")
  {f31 h31:Addr}{m31:Value}(a31:nsA K "worths" f31)(l31:lkA K f31 "worths" "worths" zlL m31 h31)(c31:cdA K h31 "worths")
  {f32 h32:Addr}{m32:Value}(a32:fdA K zcl "slope" f32)(l32:lkA K f32 "slope" "Number.slope" zkp m32 h32)(c32:cdA K h32 "Number.slope")
  {f33 h33:Addr}{m33:Value}(a33:fdA K zcu "slope" f33)(l33:lkA K f33 "slope" "Unknown.slope" ziq m33 h33)(c33:cdA K h33 "Unknown.slope")
  {f34 h34:Addr}{m34:Value}(a34:fdA K zb4 "slope_of_both" f34)(l34:lkA K f34 "slope_of_both" "Plus.slope_of_both" zks m34 h34)(c34:cdA K h34 "Plus.slope_of_both")
  {f35 h35:Addr}{m35:Value}(a35:fdA K zb4 "slope" f35)(l35:lkA K f35 "slope" "Pair.slope" zf6 m35 h35)(c35:cdA K h35 "Pair.slope")
  {f36 h36:Addr}{m36:Value}(a36:fdA K zca "slope_of_both" f36)(l36:lkA K f36 "slope_of_both" "Minus.slope_of_both" zjL m36 h36)(c36:cdA K h36 "Minus.slope_of_both")
  {f37 h37:Addr}{m37:Value}(a37:fdA K zca "slope" f37)(l37:lkA K f37 "slope" "Pair.slope" zhz m37 h37)(c37:cdA K h37 "Pair.slope")
  {f38 h38:Addr}{m38:Value}(a38:fdA K zcd "slope_of_both" f38)(l38:lkA K f38 "slope_of_both" "Times.slope_of_both" zju m38 h38)(c38:cdA K h38 "Times.slope_of_both")
  {f39 h39:Addr}{m39:Value}(a39:fdA K zcd "slope" f39)(l39:lkA K f39 "slope" "Pair.slope" zht m39 h39)(c39:cdA K h39 "Pair.slope")
  {f40 h40:Addr}{m40:Value}(a40:nsA K "scale_span" f40)(l40:lkA K f40 "scale_span" "scale_span" zmI m40 h40)(c40:cdA K h40 "scale_span")
  {f41 h41:Addr}{m41:Value}(a41:fdA K zco "slope" f41)(l41:lkA K f41 "slope" "Power.slope" zig m41 h41)(c41:cdA K h41 "Power.slope")
  {f42 h42:Addr}{m42:Value}(a42:nsA K "slopes" f42)(l42:lkA K f42 "slopes" "slopes" zlz m42 h42)(c42:cdA K h42 "slopes")
  {f43 h43:Addr}{m43:Value}(a43:nsA K "slopes_at" f43)(l43:lkA K f43 "slopes_at" "slopes_at" zmK m43 h43)(c43:cdA K h43 "slopes_at")
  {f44 h44:Addr}{m44:Value}(a44:nsA K "signed" f44)(l44:lkA K f44 "signed" "signed" zji m44 h44)(c44:cdA K h44 "signed")
  {f45 h45:Addr}{m45:Value}(a45:nsA K "without" f45)(l45:lkA K f45 "without" "without" zif m45 h45)(c45:cdA K h45 "without")
  {f46 h46:Addr}{m46:Value}(a46:nsA K "cofactor" f46)(l46:lkA K f46 "cofactor" "cofactor" zeu m46 h46)(c46:cdA K h46 "cofactor")
  {f47 h47:Addr}{m47:Value}(a47:nsA K "determinant" f47)(l47:lkA K f47 "determinant" "determinant" zcn m47 h47)(c47:cdA K h47 "determinant")
  {f48 h48:Addr}{m48:Value}(a48:nsA K "inverse_entry" f48)(l48:lkA K f48 "inverse_entry" "inverse_entry" zlw m48 h48)(c48:cdA K h48 "inverse_entry")
  {f49 h49:Addr}{m49:Value}(a49:nsA K "inverse_row" f49)(l49:lkA K f49 "inverse_row" "inverse_row" zhK m49 h49)(c49:cdA K h49 "inverse_row")
  {f50 h50:Addr}{m50:Value}(a50:nsA K "inverse" f50)(l50:lkA K f50 "inverse" "inverse" zhP m50 h50)(c50:cdA K h50 "inverse")
  {f51 h51:Addr}{m51:Value}(a51:nsA K "middle" f51)(l51:lkA K f51 "middle" "middle" zkb m51 h51)(c51:cdA K h51 "middle")
  {f52 h52:Addr}{m52:Value}(a52:nsA K "middles" f52)(l52:lkA K f52 "middles" "middles" ziE m52 h52)(c52:cdA K h52 "middles")
  {f53 h53:Addr}{m53:Value}(a53:nsA K "box_of_middles" f53)(l53:lkA K f53 "box_of_middles" "box_of_middles" ziv m53 h53)(c53:cdA K h53 "box_of_middles")
  {f54 h54:Addr}{m54:Value}(a54:nsA K "sum_of_products" f54)(l54:lkA K f54 "sum_of_products" "sum_of_products" zl9 m54 h54)(c54:cdA K h54 "sum_of_products")
  {f55 h55:Addr}{m55:Value}(a55:nsA K "lacking" f55)(l55:lkA K f55 "lacking" "lacking" zgD m55 h55)(c55:cdA K h55 "lacking")
  {f56 h56:Addr}{m56:Value}(a56:nsA K "span_by" f56)(l56:lkA K f56 "span_by" "span_by" zd6 m56 h56)(c56:cdA K h56 "span_by")
  {f57 h57:Addr}{m57:Value}(a57:nsA K "step_by" f57)(l57:lkA K f57 "step_by" "step_by" zgc m57 h57)(c57:cdA K h57 "step_by")
  {f58 h58:Addr}{m58:Value}(a58:nsA K "thin_worths" f58)(l58:lkA K f58 "thin_worths" "thin_worths" zjn m58 h58)(c58:cdA K h58 "thin_worths")
  {f59 h59:Addr}{m59:Value}(a59:nsA K "deep" f59)(l59:lkA K f59 "deep" "deep" zj4 m59 h59)(c59:cdA K h59 "deep")
  {f60 h60:Addr}{m60:Value}(a60:nsA K "all_deep" f60)(l60:lkA K f60 "all_deep" "all_deep" zgA m60 h60)(c60:cdA K h60 "all_deep")
  {f61 h61:Addr}{m61:Value}(a61:nsA K "sure" f61)(l61:lkA K f61 "sure" "sure" zi1 m61 h61)(c61:cdA K h61 "sure")
  {f62 h62:Addr}{m62:Value}(a62:nsA K "leasts_are_sure" f62)(l62:lkA K f62 "leasts_are_sure" "leasts_are_sure" zhU m62 h62)(c62:cdA K h62 "leasts_are_sure")
  {f63 h63:Addr}{m63:Value}(a63:nsA K "alone" f63)(l63:lkA K f63 "alone" "alone" zgK m63 h63)(c63:cdA K h63 "alone")
  {f64 h64:Addr}{m64:Value}(a64:nsA K "closer" f64)(l64:lkA K f64 "closer" "closer" zlv m64 h64)(c64:cdA K h64 "closer")
  {f65 h65:Addr}{m65:Value}(a65:nsA K "_law_factors" f65)(l65:lkA K f65 "_law_factors" "_law_factors" ziL m65 h65)(c65:cdA K h65 "_law_factors")
  {f66 h66:Addr}{m66:Value}(a66:nsA K "_law_whole" f66)(l66:lkA K f66 "_law_whole" "_law_whole" zkC m66 h66)(c66:cdA K h66 "_law_whole")
  {f67 h67:Addr}{m67:Value}(a67:nsA K "_law_span" f67)(l67:lkA K f67 "_law_span" "_law_span" zkA m67 h67)(c67:cdA K h67 "_law_span")
  {f68 h68:Addr}{m68:Value}(a68:nsA K "_law_spans" f68)(l68:lkA K f68 "_law_spans" "_law_spans" zkv m68 h68)(c68:cdA K h68 "_law_spans")
  {f69 h69:Addr}{m69:Value}(a69:nsA K "_law_within" f69)(l69:lkA K f69 "_law_within" "_law_within" zja m69 h69)(c69:cdA K h69 "_law_within")
  {f70 h70:Addr}{m70:Value}(a70:nsA K "_law_holds" f70)(l70:lkA K f70 "_law_holds" "_law_holds" zlq m70 h70)(c70:cdA K h70 "_law_holds")
  {f71 h71:Addr}{m71:Value}(a71:nsA K "_law_kept" f71)(l71:lkA K f71 "_law_kept" "_law_kept" zlp m71 h71)(c71:cdA K h71 "_law_kept")
  {f72 h72:Addr}{m72:Value}(a72:nsA K "law" f72)(l72:lkA K f72 "law" "law" zdB m72 h72)(c72:cdA K h72 "law")
  (zaA:PySem.W.nsIn K mainGlobals "len"=some none)
  (zaH:PySem.W.nsIn K mainGlobals "range"=some none)
  (zbI:PySem.W.nsIn K mainGlobals "max"=some none)
  (zdU:PySem.W.nsIn K mainGlobals "abs"=some none)
  (zcY:PySem.W.nsIn K mainGlobals "int"=some none)
  (zce:PySem.W.nsIn K mainGlobals "min"=some none)
  (zbk:PySem.W.nsIn K mainGlobals "zip"=some none)
  (zbu:PySem.W.nsIn K mainGlobals "sum"=some none)
  (zbm:PySem.W.nsIn K mainGlobals "enumerate"=some none)
  (zcS:PySem.W.nsIn K mainGlobals "all"=some none)
  (zbl:PySem.W.nsIn K mainGlobals "list"=some none)
  (zbX:PySem.W.nsIn K mainGlobals "isinstance"=some none)
  (zdP:PySem.W.nsIn K mainGlobals "bool"=some none)
  (zdt:PySem.W.nsIn K mainGlobals "tuple"=some none)
  (zfq:Kit K "bool")
  (zeA:Kit K "int")
  (zfW:Kit K "tuple")
  :∃fd:FuncData,(∀(s:Shared) (v:Value),BindsTo s fd ⟨[v],[]⟩ [("_law_script",v)])∧∀base:Heap,K.In base→base.Ns mainGlobals mg→zbb l.prog w K mg base (CXE l.prog w) 14 fa fd ["_law_script"] (upF K ze1):=by
 have e:=hfa.symm.trans (PySem.W.mg_of X G a72)
 cases e
 let zak:zbH K mg:=⟨zcl,PySem.W.mg_of X G zj1,⟨zkI,zjJ,zkF,zlR⟩,zjk,zl4,zlb,zlS⟩
 let zal:zbP K mg:=⟨zcu,PySem.W.mg_of X G ziS,⟨zj0,zkG,zmw,zkX⟩,zjR,zjN,zjQ⟩
 let zae:zbC K mg:=⟨zb4,PySem.W.mg_of X G zjr,⟨zjp,zkc,zlK,zkD⟩,zlF,zk6,zmO,zjK⟩
 let zad:zbD K mg:=⟨zca,PySem.W.mg_of X G zkY,⟨zjH,zmQ,zje,zmz⟩,zmo,zkj,zj3,zkt⟩
 let zaf:zbA K mg:=⟨zcd,PySem.W.mg_of X G zkE,⟨zjw,zld,zkq,ziK⟩,zjf,zkV,zjG,zlc⟩
 let zag:zbL K mg:=⟨zco,PySem.W.mg_of X G zk4,⟨zlH,zmg,zkO,zlu⟩,zjy,zj8,zkS,ziQ⟩
 let zlY:Df K mg "_law_grid" zkx zhG:=dfo X G a0 l0 c0 fun _ _ _ _ _ _=>ln1 fun _=>rfl
 let zmE:Df K mg "_law_cell" zj6 zdr:=dfo X G a1 l1 c1 fun _ _ _ _ _ _=>ln2 fun _ _=>rfl
 let ziU:Df K mg "_law_point" zlI zgu:=dfo X G a2 l2 c2 fun _ _ _ _ _ _=>ln4 fun _ _ _ _=>rfl
 let zmb:Df K mg "_law_around" zlV zh2:=dfo X G a3 l3 c3 fun _ _ _ _ _ _=>ln4 fun _ _ _ _=>rfl
 let zjW:Df K mg "_law_lowest" zmF zff:=dfo X G a4 l4 c4 fun _ _ _ _ _ _=>ln2 fun _ _=>rfl
 let ziY:Df K mg "_law_at" zli zel:=dfo X G a5 l5 c5 fun _ _ _ _ _ _=>ln2 fun _ _=>rfl
 let zkz:Df K mg "_law_sum" zmJ zgC:=dfo X G a6 l6 c6 fun _ _ _ _ _ _=>ln2 fun _ _=>rfl
 let zmN:Df K mg "_law_rows" zlm zha:=dfo X G a7 l7 c7 fun _ _ _ _ _ _=>ln3 fun _ _ _=>rfl
 let zk3:Df K mg "equation_places" zg4 zgz:=dfo X G a8 l8 c8 fun _ _ _ _ _ _=>ln1 fun _=>rfl
 let zlE:Df K mg "picked" zhu zeQ:=dfo X G a9 l9 c9 fun _ _ _ _ _ _=>ln2 fun _ _=>rfl
 let zjB:Df K mg "less" zj7 zhC:=dfo X G a10 l10 c10 fun _ _ _ _ _ _=>ln2 fun _ _=>rfl
 let ziV:Df K mg "rounded_up" zkJ zec:=dfo X G a11 l11 c11 fun _ _ _ _ _ _=>ln2 fun _ _=>rfl
 let zmn:Df K mg "span_of" ziI zgQ:=dfo X G a12 l12 c12 fun _ _ _ _ _ _=>ln3 fun _ _ _=>rfl
 let zi4:Dm K zak.C "forth" "Number.forth" zmd zhH:=dmo a13 l13 c13 fun _ _ _ _ _ _=>ln4 fun _ _ _ _=>rfl
 let zme:Dm K zal.C "forth" "Unknown.forth" zlG zgq:=dmo a14 l14 c14 fun _ _ _ _ _ _=>ln4 fun _ _ _ _=>rfl
 let zlg:Df K mg "add_spans" zjo zdc:=dfo X G a15 l15 c15 fun _ _ _ _ _ _=>ln2 fun _ _=>rfl
 let zi8:Dm K zae.C "forth" "Plus.forth" zlC zhp:=dmo a16 l16 c16 fun _ _ _ _ _ _=>ln4 fun _ _ _ _=>rfl
 let zjI:Df K mg "take_spans" zkn zdA:=dfo X G a17 l17 c17 fun _ _ _ _ _ _=>ln2 fun _ _=>rfl
 let zmh:Dm K zad.C "forth" "Minus.forth" zku zhS:=dmo a18 l18 c18 fun _ _ _ _ _ _=>ln4 fun _ _ _ _=>rfl
 let zlr:Df K mg "mul_spans" zjE zdx:=dfo X G a19 l19 c19 fun _ _ _ _ _ _=>ln3 fun _ _ _=>rfl
 let zlZ:Dm K zaf.C "forth" "Times.forth" zlD zhX:=dmo a20 l20 c20 fun _ _ _ _ _ _=>ln4 fun _ _ _ _=>rfl
 let zi6:Df K mg "raised" zma zgY:=dfo X G a21 l21 c21 fun _ _ _ _ _ _=>ln2 fun _ _=>rfl
 let zk0:Df K mg "raise_span" zhI zeL:=dfo X G a22 l22 c22 fun _ _ _ _ _ _=>ln3 fun _ _ _=>rfl
 let zjO:Dm K zag.C "forth" "Power.forth" zmi zgg:=dmo a23 l23 c23 fun _ _ _ _ _ _=>ln4 fun _ _ _ _=>rfl
 let zk7:Dm K zag.C "__init__" "Power.__init__" zmc zf7:=dmo a24 l24 c24 fun _ _ _ _ _ _=>ln3 fun _ _ _=>rfl
 let zjz:Dm K zak.C "__init__" "Number.__init__" zmu ziy:=dmo a25 l25 c25 fun _ _ _ _ _ _=>ln3 fun _ _ _=>rfl
 let zjV:Dm K zal.C "__init__" "Unknown.__init__" zkg zie:=dmo a26 l26 c26 fun _ _ _ _ _ _=>ln2 fun _ _=>rfl
 let zjc:Dm K zae.C "__init__" "Pair.__init__" zkf zgP:=dmo a27 l27 c27 fun _ _ _ _ _ _=>ln3 fun _ _ _=>rfl
 let zjx:Dm K zad.C "__init__" "Pair.__init__" zlN zg5:=dmo a28 l28 c28 fun _ _ _ _ _ _=>ln3 fun _ _ _=>rfl
 let zjg:Dm K zaf.C "__init__" "Pair.__init__" zl2 zhc:=dmo a29 l29 c29 fun _ _ _ _ _ _=>ln3 fun _ _ _=>rfl
 let zlB:Df K mg "kind_of" zl3 ze6:=dfo X G a30 l30 c30 fun _ _ _ _ _ _=>ln1 fun _=>rfl
 let zlT:Df K mg "worths" zlL zd4:=dfo X G a31 l31 c31 fun _ _ _ _ _ _=>ln3 fun _ _ _=>rfl
 let zjh:Dm K zak.C "slope" "Number.slope" zkp zia:=dmo a32 l32 c32 fun _ _ _ _ _ _=>ln5 fun _ _ _ _ _=>rfl
 let zmD:Dm K zal.C "slope" "Unknown.slope" ziq zgy:=dmo a33 l33 c33 fun _ _ _ _ _ _=>ln5 fun _ _ _ _ _=>rfl
 let zmr:Dm K zae.C "slope_of_both" "Plus.slope_of_both" zks zhN:=dmo a34 l34 c34 fun _ _ _ _ _ _=>ln6 fun _ _ _ _ _ _=>rfl
 let zk8:Dm K zae.C "slope" "Pair.slope" zf6 zgX:=dmo a35 l35 c35 fun _ _ _ _ _ _=>ln5 fun _ _ _ _ _=>rfl
 let zkh:Dm K zad.C "slope_of_both" "Minus.slope_of_both" zjL zhZ:=dmo a36 l36 c36 fun _ _ _ _ _ _=>ln6 fun _ _ _ _ _ _=>rfl
 let zl1:Dm K zad.C "slope" "Pair.slope" zhz zgN:=dmo a37 l37 c37 fun _ _ _ _ _ _=>ln5 fun _ _ _ _ _=>rfl
 let zln:Dm K zaf.C "slope_of_both" "Times.slope_of_both" zju zhL:=dmo a38 l38 c38 fun _ _ _ _ _ _=>ln6 fun _ _ _ _ _ _=>rfl
 let zlA:Dm K zaf.C "slope" "Pair.slope" zht zfZ:=dmo a39 l39 c39 fun _ _ _ _ _ _=>ln5 fun _ _ _ _ _=>rfl
 let zmf:Df K mg "scale_span" zmI zib:=dfo X G a40 l40 c40 fun _ _ _ _ _ _=>ln2 fun _ _=>rfl
 let zkW:Dm K zag.C "slope" "Power.slope" zig zgi:=dmo a41 l41 c41 fun _ _ _ _ _ _=>ln5 fun _ _ _ _ _=>rfl
 let ziM:Df K mg "slopes" zlz zgW:=dfo X G a42 l42 c42 fun _ _ _ _ _ _=>ln3 fun _ _ _=>rfl
 let zj5:Df K mg "slopes_at" zmK zgj:=dfo X G a43 l43 c43 fun _ _ _ _ _ _=>ln4 fun _ _ _ _=>rfl
 let ziG:Df K mg "signed" zji zdX:=dfo X G a44 l44 c44 fun _ _ _ _ _ _=>ln2 fun _ _=>rfl
 let zkQ:Df K mg "without" zif zdW:=dfo X G a45 l45 c45 fun _ _ _ _ _ _=>ln3 fun _ _ _=>rfl
 let zbF:Df K mg "cofactor" zeu zbQ:=dfo X G a46 l46 c46 fun _ _ _ _ _ _=>ln3 fun _ _ _=>rfl
 let zbr:Df K mg "determinant" zcn zbK:=dfo X G a47 l47 c47 fun _ _ _ _ _ _=>ln1 fun _=>rfl
 let zk2:Df K mg "inverse_entry" zlw zgG:=dfo X G a48 l48 c48 fun _ _ _ _ _ _=>ln5 fun _ _ _ _ _=>rfl
 let zjD:Df K mg "inverse_row" zhK zhs:=dfo X G a49 l49 c49 fun _ _ _ _ _ _=>ln4 fun _ _ _ _=>rfl
 let zjv:Df K mg "inverse" zhP zgO:=dfo X G a50 l50 c50 fun _ _ _ _ _ _=>ln2 fun _ _=>rfl
 let ziX:Df K mg "middle" zkb zgB:=dfo X G a51 l51 c51 fun _ _ _ _ _ _=>ln1 fun _=>rfl
 let zkM:Df K mg "middles" ziE zfc:=dfo X G a52 l52 c52 fun _ _ _ _ _ _=>ln1 fun _=>rfl
 let zmH:Df K mg "box_of_middles" ziv zfm:=dfo X G a53 l53 c53 fun _ _ _ _ _ _=>ln1 fun _=>rfl
 let zmB:Df K mg "sum_of_products" zl9 zfV:=dfo X G a54 l54 c54 fun _ _ _ _ _ _=>ln3 fun _ _ _=>rfl
 let zmM:Df K mg "lacking" zgD zhn:=dfo X G a55 l55 c55 fun _ _ _ _ _ _=>ln5 fun _ _ _ _ _=>rfl
 let ziF:Df K mg "span_by" zd6 zg2:=dfo X G a56 l56 c56 fun _ _ _ _ _ _=>ln6 fun _ _ _ _ _ _=>rfl
 let zjY:Df K mg "step_by" zgc zit:=dfo X G a57 l57 c57 fun _ _ _ _ _ _=>ln5 fun _ _ _ _ _=>rfl
 let zlj:Df K mg "thin_worths" zjn zf0:=dfo X G a58 l58 c58 fun _ _ _ _ _ _=>ln4 fun _ _ _ _=>rfl
 let zmq:Df K mg "deep" zj4 zhA:=dfo X G a59 l59 c59 fun _ _ _ _ _ _=>ln2 fun _ _=>rfl
 let zmA:Df K mg "all_deep" zgA zhj:=dfo X G a60 l60 c60 fun _ _ _ _ _ _=>ln2 fun _ _=>rfl
 let zk1:Df K mg "sure" zi1 zh6:=dfo X G a61 l61 c61 fun _ _ _ _ _ _=>ln2 fun _ _=>rfl
 let zi2:Df K mg "leasts_are_sure" zhU ziz:=dfo X G a62 l62 c62 fun _ _ _ _ _ _=>ln2 fun _ _=>rfl
 let ziT:Df K mg "alone" zgK zeB:=dfo X G a63 l63 c63 fun _ _ _ _ _ _=>ln4 fun _ _ _ _=>rfl
 let zjb:Df K mg "closer" zlv zgr:=dfo X G a64 l64 c64 fun _ _ _ _ _ _=>ln5 fun _ _ _ _ _=>rfl
 let zjZ:Df K mg "_law_factors" ziL zgw:=dfo X G a65 l65 c65 fun _ _ _ _ _ _=>ln3 fun _ _ _=>rfl
 let zjU:Df K mg "_law_whole" zkC zgS:=dfo X G a66 l66 c66 fun _ _ _ _ _ _=>ln1 fun _=>rfl
 let ziN:Df K mg "_law_span" zkA zg7:=dfo X G a67 l67 c67 fun _ _ _ _ _ _=>ln1 fun _=>rfl
 let zkR:Df K mg "_law_spans" zkv zg9:=dfo X G a68 l68 c68 fun _ _ _ _ _ _=>ln2 fun _ _=>rfl
 let zmx:Df K mg "_law_within" zja zhO:=dfo X G a69 l69 c69 fun _ _ _ _ _ _=>ln2 fun _ _=>rfl
 let zl5:Df K mg "_law_holds" zlq zhF:=dfo X G a70 l70 c70 fun _ _ _ _ _ _=>ln3 fun _ _ _=>rfl
 let zke:Df K mg "_law_kept" zlp zgk:=dfo X G a71 l71 c71 fun _ _ _ _ _ _=>ln4 fun _ _ _ _=>rfl
 let zlh:Df K mg "law" zdB zll:=dfo X G a72 l72 c72 fun _ _ _ _ _ _=>ln1 fun _=>rfl
 have zaA:=PySem.W.mg_none_of X G zaA
 have zaH:=PySem.W.mg_none_of X G zaH
 have zbI:=PySem.W.mg_none_of X G zbI
 have zdU:=PySem.W.mg_none_of X G zdU
 have zcY:=PySem.W.mg_none_of X G zcY
 have zce:=PySem.W.mg_none_of X G zce
 have zbk:=PySem.W.mg_none_of X G zbk
 have zbu:=PySem.W.mg_none_of X G zbu
 have zbm:=PySem.W.mg_none_of X G zbm
 have zcS:=PySem.W.mg_none_of X G zcS
 have zbl:=PySem.W.mg_none_of X G zbl
 have zbX:=PySem.W.mg_none_of X G zbX
 have zdP:=PySem.W.mg_none_of X G zdP
 have zdt:=PySem.W.mg_none_of X G zdt
 refine⟨PySem.W.fnOf "law" "law" (zd3 zdB) (zdb zdB) (zao zdB) .none .none .none m72 none (.ref h72) .none,fun s v=>.of_eq rfl,fun base _ _=>?_⟩
 let znW:=zr5 (P:=l.prog) (w:=w) (base:=base) zlY
 let zbn:=zxy (P:=l.prog) (w:=w) (base:=base) zmE zaA
 let znD:=zu8 (P:=l.prog) (w:=w) (base:=base) ziU zbn zaH
 let zol:=zxk (P:=l.prog) (w:=w) (base:=base) zmb zbn zaH zaA zbI
 let zeO:=zsq (P:=l.prog) (w:=w) (base:=base) zjW zdU
 let zcb:=zst (P:=l.prog) (w:=w) (base:=base) ziY
 let znL:=zrN (P:=l.prog) (w:=w) (base:=base) zkz zcb
 let znC:=zx9 (P:=l.prog) (w:=w) (base:=base) zmN znL zcb zeO zbn zaH zaA zcY
 let zm4:=zsf (P:=l.prog) (w:=w) (base:=base) zk3
 let zfx:=zsy (P:=l.prog) (w:=w) (base:=base) zlE
 let zoE:=zv2 (P:=l.prog) (w:=w) (base:=base) zjB
 let zdo:=ztM (P:=l.prog) (w:=w) (base:=base) ziV
 let zop:=zv3 (P:=l.prog) (w:=w) (base:=base) zmn zdo zoE
 let zmW:=zvJ (P:=l.prog) (w:=w) (base:=base) zak zal zae zad zaf zag zi4 zop
 let znf:=zvM (P:=l.prog) (w:=w) (base:=base) zal zak zae zad zaf zag zme
 let zb3:=zua (P:=l.prog) (w:=w) (base:=base) zlg
 let zoC:=zuT (P:=l.prog) (w:=w) (base:=base) zae zak zal zad zaf zag zi8 zb3
 let zcq:=zr7 (P:=l.prog) (w:=w) (base:=base) zjI
 let znY:=zwi (P:=l.prog) (w:=w) (base:=base) zad zak zal zae zaf zag zmh zcq
 let zch:=ztm (P:=l.prog) (w:=w) (base:=base) zlr zdo zbI zce
 let znl:=zuq (P:=l.prog) (w:=w) (base:=base) zaf zak zal zae zad zag zlZ zch
 let zkk:=zvR (P:=l.prog) (w:=w) (base:=base) zi6 zaH
 let zfk:=zwc (P:=l.prog) (w:=w) (base:=base) zk0 zdo zkk zbI zce
 let znw:=zsz (P:=l.prog) (w:=w) (base:=base) zag zak zal zae zad zaf zjO zfk
 let zfo:=zwr (P:=l.prog) (w:=w) (base:=base) zag zk7
 let ze0:=zsQ (P:=l.prog) (w:=w) (base:=base) zak zjz
 let zeJ:=zrD (P:=l.prog) (w:=w) (base:=base) zal zjV
 let ze9:=zrj (P:=l.prog) (w:=w) (base:=base) zae zjc
 let zfU:=zuL (P:=l.prog) (w:=w) (base:=base) zad zjx
 let zfj:=zsr (P:=l.prog) (w:=w) (base:=base) zaf zjg
 let ze3:=ztP (P:=l.prog) (w:=w) (base:=base) zag zaf zad zae zal zak zlB zfo zfj zfU ze9 zeJ ze0
 let zdm:=zs1 (P:=l.prog) (w:=w) (base:=base) zag zaf zad zae zal zak zlT znw znl znY zoC znf zmW ze3
 let znJ:=ztF (P:=l.prog) (w:=w) (base:=base) zak zal zae zad zaf zag zjh
 let znu:=zwZ (P:=l.prog) (w:=w) (base:=base) zal zak zae zad zaf zag zmD zaH
 let zhr:=zrS (P:=l.prog) (w:=w) (base:=base) zae zmr zb3
 let znc:=zuI (P:=l.prog) (w:=w) (base:=base) zae zak zal zad zaf zag zk8 zhr zbk
 let zga:=zr3 (P:=l.prog) (w:=w) (base:=base) zad zkh zcq
 let zon:=ztz (P:=l.prog) (w:=w) (base:=base) zad zak zal zae zaf zag zl1 zga zbk
 let zgR:=zsN (P:=l.prog) (w:=w) (base:=base) zaf zln zb3 zch
 let znj:=zxZ (P:=l.prog) (w:=w) (base:=base) zaf zak zal zae zad zag zlA zgR zbk
 let zn2:=zt5 (P:=l.prog) (w:=w) (base:=base) zmf zbI zce
 let znF:=zuF (P:=l.prog) (w:=w) (base:=base) zag zak zal zae zad zaf zkW zch zn2 zfk
 let znU:=ztL (P:=l.prog) (w:=w) (base:=base) zag zaf zad zae zal zak ziM znF znj zon znc znu znJ ze3 zdm zaA
 let zm2:=zrO (P:=l.prog) (w:=w) (base:=base) zj5 zfx znU
 let zcE:=zxn (P:=l.prog) (w:=w) (base:=base) ziG
 let zct:=zuz (P:=l.prog) (w:=w) (base:=base) zkQ
 let zuh:=zxh (P:=l.prog) (w:=w) (base:=base) zbr (Df.never (P:=l.prog) (w:=w) (base:=base) 0 zbF) zbu zbm zaA
 let zuZ:=zrF (P:=l.prog) (w:=w) (base:=base) zbF zcE zuh zct
 let ztk:=zuK (P:=l.prog) (w:=w) (base:=base) zbr zuZ zbu zbm zaA
 let zya:=zxJ (P:=l.prog) (w:=w) (base:=base) zbF zcE ztk zct
 let zuv:=zta (P:=l.prog) (w:=w) (base:=base) zbr zya zbu zbm zaA
 let zvU:=zvV (P:=l.prog) (w:=w) (base:=base) zbF zcE zuv zct
 let zvv:=zrl (P:=l.prog) (w:=w) (base:=base) zbr zvU zbu zbm zaA
 let zcc:=zwf (P:=l.prog) (w:=w) (base:=base) zbF zcE zvv zct
 let zcK:=zvj (P:=l.prog) (w:=w) (base:=base) zbr zcc zbu zbm zaA
 let znE:=zw5 (P:=l.prog) (w:=w) (base:=base) zk2 zcc
 let znA:=zyc (P:=l.prog) (w:=w) (base:=base) zjD znE zaH zaA
 let znX:=zu6 (P:=l.prog) (w:=w) (base:=base) zjv znA zcK zaH zaA
 let znk:=zwW (P:=l.prog) (w:=w) (base:=base) ziX
 let zfe:=zvh (P:=l.prog) (w:=w) (base:=base) zkM znk
 let ze5:=zvy (P:=l.prog) (w:=w) (base:=base) zmH zfe
 let zd9:=ztp (P:=l.prog) (w:=w) (base:=base) zmB zb3 zch zbk
 let zno:=zxA (P:=l.prog) (w:=w) (base:=base) zmM zcq zd9
 let zn8:=zum (P:=l.prog) (w:=w) (base:=base) ziF zb3 zd9 zcq zno ze5 zbk zaH zaA
 let zoy:=zrz (P:=l.prog) (w:=w) (base:=base) zjY zn8 zbm
 let zor:=zu1 (P:=l.prog) (w:=w) (base:=base) zlj zfx zdm ze5
 let zm0:=ztQ (P:=l.prog) (w:=w) (base:=base) zmq
 let zoF:=zvZ (P:=l.prog) (w:=w) (base:=base) zmA zm0 zcS zbk
 let znV:=zxl (P:=l.prog) (w:=w) (base:=base) zk1
 let zm7:=zvI (P:=l.prog) (w:=w) (base:=base) zi2 znV zcS
 let zfF:=ztI (P:=l.prog) (w:=w) (base:=base) ziT zoF zoy zor znX zfe zm2 zm7 zdm zm4 zaA
 let zim:=zu9 (P:=l.prog) (w:=w) (base:=base) zjb zfF zaH zbl
 let znr:=zxU (P:=l.prog) (w:=w) (base:=base) zjZ zcb zeO zaH zaA
 let zlM:=zvL (P:=l.prog) (w:=w) (base:=base) zjU zbX zdP zcY zfq zeA
 let znb:=zyb (P:=l.prog) (w:=w) (base:=base) ziN zlM zaA zbX zdt zfW
 let zm5:=zwx (P:=l.prog) (w:=w) (base:=base) zkR znb zaA zbX zbl
 let zf3:=zsZ (P:=l.prog) (w:=w) (base:=base) zmx zm5 zaH zaA
 let zkZ:=zvY (P:=l.prog) (w:=w) (base:=base) zl5
 let zmV:=zsm (P:=l.prog) (w:=w) (base:=base) zke zkZ zaH zaA
 let G_law:=zx2 (P:=l.prog) (w:=w) (base:=base) zlh zf3 zim zfF zmV zbn znC znr zol znD znW zbl zaH
 exact G_law.ok
end Mine
open PySem PySem.W PyProof.Rows
set_option maxRecDepth 100003 in
set_option maxHeartbeats 0 in

theorem PySem.Challenge.cw_boxnarrow_k48_closer_holds : PySem.Challenge.rw_boxnarrow_k48_closer.Holds := by
 w_on; refine PySem.W.holds_law Mine.ws_eq fun said=>?_
 refine PySem.W.holds_open (q:=Mine.vw) (loose:=[]) (Xt:=Mine.xt) (XP:=XL Mine.vw []) (Yf:=Hook.obs (kHook Mine.kp Mine.ks Mine.zfI)) (Ya:=Hook.val (kHook Mine.kp Mine.ks Mine.zfI))
  (YP:=Hook.says (kHook Mine.kp Mine.ks Mine.zfI)) (N:=9928) Mine.left (Hook.of (kHook Mine.kp Mine.ks Mine.zfI)) (Hook.keeps (kHook Mine.kp Mine.ks Mine.zfI)) (fun s e=>xl_of s (Bool.and_eq_true_iff.mp e).1) XL.keeps
  (by rfl) (by rfl) (by rfl) (fun s e=>recFacts_of (Bool.and_eq_true_iff.mp e).2) (by rfl) (by first | assumption | decide +kernel)
  (by decide +kernel) ⟨rfl,rfl,rfl,rfl,rfl,by decide +kernel⟩ ?hw ?hc
 (case hw=>w_witness2)
 k_fill
 refine L3.zxe (l:=PySem.Challenge.rw_boxnarrow_k48_closer) (x:="_law_script") 14 rfl rfl ⟨rfl,by decide,by decide⟩ (fun w h Y=>PySem.W.kIn_of Y) ?F
 case F=>
  intro w mg fa h KX G hmg
  refine' Mine.zuM KX G hmg (zj1:=?zj1) (zkI:=?zkI) (zjJ:=?zjJ) (zkF:=?zkF) (zlR:=?zlR) (zlb:=?zlb) (zlS:=?zlS) (zjk:=?zjk) (zl4:=?zl4) (ziS:=?ziS) (zj0:=?zj0) (zkG:=?zkG) (zmw:=?zmw) (zkX:=?zkX) (zjN:=?zjN) (zjQ:=?zjQ) (zjR:=?zjR) (zjr:=?zjr) (zjp:=?zjp) (zkc:=?zkc) (zlK:=?zlK) (zkD:=?zkD) (zmO:=?zmO) (zjK:=?zjK) (zlF:=?zlF) (zk6:=?zk6) (zkY:=?zkY) (zjH:=?zjH) (zmQ:=?zmQ) (zje:=?zje) (zmz:=?zmz) (zj3:=?zj3) (zkt:=?zkt) (zmo:=?zmo) (zkj:=?zkj) (zkE:=?zkE) (zjw:=?zjw) (zld:=?zld) (zkq:=?zkq) (ziK:=?ziK) (zjG:=?zjG) (zlc:=?zlc) (zjf:=?zjf) (zkV:=?zkV) (zk4:=?zk4) (zlH:=?zlH) (zmg:=?zmg) (zkO:=?zkO) (zlu:=?zlu) (zkS:=?zkS) (ziQ:=?ziQ) (zjy:=?zjy) (zj8:=?zj8) (a0:=?a0) (l0:=?l0) (c0:=?c0) (a1:=?a1) (l1:=?l1) (c1:=?c1) (a2:=?a2) (l2:=?l2) (c2:=?c2) (a3:=?a3) (l3:=?l3) (c3:=?c3) (a4:=?a4) (l4:=?l4) (c4:=?c4) (a5:=?a5) (l5:=?l5) (c5:=?c5) (a6:=?a6) (l6:=?l6) (c6:=?c6) (a7:=?a7) (l7:=?l7) (c7:=?c7) (a8:=?a8) (l8:=?l8) (c8:=?c8) (a9:=?a9) (l9:=?l9) (c9:=?c9) (a10:=?a10) (l10:=?l10) (c10:=?c10) (a11:=?a11) (l11:=?l11) (c11:=?c11) (a12:=?a12) (l12:=?l12) (c12:=?c12) (a13:=?a13) (l13:=?l13) (c13:=?c13) (a14:=?a14) (l14:=?l14) (c14:=?c14) (a15:=?a15) (l15:=?l15) (c15:=?c15) (a16:=?a16) (l16:=?l16) (c16:=?c16) (a17:=?a17) (l17:=?l17) (c17:=?c17) (a18:=?a18) (l18:=?l18) (c18:=?c18) (a19:=?a19) (l19:=?l19) (c19:=?c19) (a20:=?a20) (l20:=?l20) (c20:=?c20) (a21:=?a21) (l21:=?l21) (c21:=?c21) (a22:=?a22) (l22:=?l22) (c22:=?c22) (a23:=?a23) (l23:=?l23) (c23:=?c23) (a24:=?a24) (l24:=?l24) (c24:=?c24) (a25:=?a25) (l25:=?l25) (c25:=?c25) (a26:=?a26) (l26:=?l26) (c26:=?c26) (a27:=?a27) (l27:=?l27) (c27:=?c27) (a28:=?a28) (l28:=?l28) (c28:=?c28) (a29:=?a29) (l29:=?l29) (c29:=?c29) (a30:=?a30) (l30:=?l30) (c30:=?c30) (a31:=?a31) (l31:=?l31) (c31:=?c31) (a32:=?a32) (l32:=?l32) (c32:=?c32) (a33:=?a33) (l33:=?l33) (c33:=?c33) (a34:=?a34) (l34:=?l34) (c34:=?c34) (a35:=?a35) (l35:=?l35) (c35:=?c35) (a36:=?a36) (l36:=?l36) (c36:=?c36) (a37:=?a37) (l37:=?l37) (c37:=?c37) (a38:=?a38) (l38:=?l38) (c38:=?c38) (a39:=?a39) (l39:=?l39) (c39:=?c39) (a40:=?a40) (l40:=?l40) (c40:=?c40) (a41:=?a41) (l41:=?l41) (c41:=?c41) (a42:=?a42) (l42:=?l42) (c42:=?c42) (a43:=?a43) (l43:=?l43) (c43:=?c43) (a44:=?a44) (l44:=?l44) (c44:=?c44) (a45:=?a45) (l45:=?l45) (c45:=?c45) (a46:=?a46) (l46:=?l46) (c46:=?c46) (a47:=?a47) (l47:=?l47) (c47:=?c47) (a48:=?a48) (l48:=?l48) (c48:=?c48) (a49:=?a49) (l49:=?l49) (c49:=?c49) (a50:=?a50) (l50:=?l50) (c50:=?c50) (a51:=?a51) (l51:=?l51) (c51:=?c51) (a52:=?a52) (l52:=?l52) (c52:=?c52) (a53:=?a53) (l53:=?l53) (c53:=?c53) (a54:=?a54) (l54:=?l54) (c54:=?c54) (a55:=?a55) (l55:=?l55) (c55:=?c55) (a56:=?a56) (l56:=?l56) (c56:=?c56) (a57:=?a57) (l57:=?l57) (c57:=?c57) (a58:=?a58) (l58:=?l58) (c58:=?c58) (a59:=?a59) (l59:=?l59) (c59:=?c59) (a60:=?a60) (l60:=?l60) (c60:=?c60) (a61:=?a61) (l61:=?l61) (c61:=?c61) (a62:=?a62) (l62:=?l62) (c62:=?c62) (a63:=?a63) (l63:=?l63) (c63:=?c63) (a64:=?a64) (l64:=?l64) (c64:=?c64) (a65:=?a65) (l65:=?l65) (c65:=?c65) (a66:=?a66) (l66:=?l66) (c66:=?c66) (a67:=?a67) (l67:=?l67) (c67:=?c67) (a68:=?a68) (l68:=?l68) (c68:=?c68) (a69:=?a69) (l69:=?l69) (c69:=?c69) (a70:=?a70) (l70:=?l70) (c70:=?c70) (a71:=?a71) (l71:=?l71) (c71:=?c71) (a72:=?a72) (l72:=?l72) (c72:=?c72) (zaA:=?zaA) (zaH:=?zaH) (zbI:=?zbI) (zdU:=?zdU) (zcY:=?zcY) (zce:=?zce) (zbk:=?zbk) (zbu:=?zbu) (zbm:=?zbm) (zcS:=?zcS) (zbl:=?zbl) (zbX:=?zbX) (zdP:=?zdP) (zdt:=?zdt) (zfq:=?zfq) (zeA:=?zeA) (zfW:=?zfW)
  (case zj1 | zkI | zjJ | zkF | zlR | zlb | zlS | zjk | zl4 | ziS | zj0 | zkG | zmw | zkX | zjN | zjQ | zjR | zjr | zjp | zkc | zlK | zkD | zmO | zjK | zlF | zk6 | zkY | zjH | zmQ | zje | zmz | zj3 | zkt | zmo | zkj | zkE | zjw | zld | zkq | ziK | zjG | zlc | zjf | zkV | zk4 | zlH | zmg | zkO | zlu | zkS | ziQ | zjy | zj8 | zaA | zaH | zbI | zdU | zcY | zce | zbk | zbu | zbm | zcS | zbl | zbX | zdP | zdt=>k_is)
  (case a0 | a1 | a2 | a3 | a4 | a5 | a6 | a7 | a8 | a9 | a10 | a11 | a12 | a15 | a17 | a19 | a21 | a22 | a30 | a31 | a40 | a42 | a43 | a44 | a45 | a46 | a47 | a48 | a49 | a50 | a51 | a52 | a53 | a54 | a55 | a56 | a57 | a58 | a59 | a60 | a61 | a62 | a63 | a64 | a65 | a66 | a67 | a68 | a69 | a70 | a71 | a72=>delta Mine.nsA; k_is)
  (case a13 | a14 | a16 | a18 | a20 | a23 | a24 | a25 | a26 | a27 | a28 | a29 | a32 | a33 | a34 | a35 | a36 | a37 | a38 | a39 | a41=>delta Mine.fdA; k_is)
  (case l0 | l1 | l2 | l3 | l4 | l5 | l6 | l7 | l8 | l9 | l10 | l11 | l12 | l13 | l14 | l15 | l16 | l17 | l18 | l19 | l20 | l21 | l22 | l23 | l24 | l25 | l26 | l27 | l28 | l29 | l30 | l31 | l32 | l33 | l34 | l35 | l36 | l37 | l38 | l39 | l40 | l41 | l42 | l43 | l44 | l45 | l46 | l47 | l48 | l49 | l50 | l51 | l52 | l53 | l54 | l55 | l56 | l57 | l58 | l59 | l60 | l61 | l62 | l63 | l64 | l65 | l66 | l67 | l68 | l69 | l70 | l71 | l72=>delta Mine.lkA; k_is)
  (case c0 | c1 | c2 | c3 | c4 | c5 | c6 | c7 | c8 | c9 | c10 | c11 | c12 | c13 | c14 | c15 | c16 | c17 | c18 | c19 | c20 | c21 | c22 | c23 | c24 | c25 | c26 | c27 | c28 | c29 | c30 | c31 | c32 | c33 | c34 | c35 | c36 | c37 | c38 | c39 | c40 | c41 | c42 | c43 | c44 | c45 | c46 | c47 | c48 | c49 | c50 | c51 | c52 | c53 | c54 | c55 | c56 | c57 | c58 | c59 | c60 | c61 | c62 | c63 | c64 | c65 | c66 | c67 | c68 | c69 | c70 | c71 | c72=>delta Mine.cdA; k_is)
  (case zfq=>exact L3.zos _ _ (by simp))
  (case zeA=>exact L3.zos _ _ (by simp))
  (case zfW=>exact L3.zos _ _ (by simp))

