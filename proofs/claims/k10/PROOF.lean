import PyProof.Rows.All
import Wide.All
import OpenK.AllK
import Wide.FinOn
import Lean
import PyProof.EqAt
import PyProof.EqKinds
import PyProof.TupleCall
import PySem.Challenge.RW_boxnarrow_k10_what_is_refused
def Vaa:=@Nat.lt_of_lt_of_le
def Vab:=@Nat.ne_of_lt
def Vac:=@Nat.le_refl
def Vad:=@List.getElem?_eq_some_iff
def Vae:=@Bool.false_ne_true
def Vaf:=@List.map_cons
def Vag:=@List.lookup_cons
def Vah:=@List.mem_cons
def Vai:=@List.getElem?_set_self
def Vaj:=@List.size_toArray
def Vak:=@Bool.and_eq_true
def Val:=@Nat.lt_irrefl
def Vam:=@Nat.le_trans
def Van:=@List.getElem?_set_ne
def Vao:=@List.mem_append_right
def Vap:=@List.getElem?_append_left
def Vaq:=@List.mem_cons_of_mem
def Var:=@List.getElem?_map
def Vas:=@List.find?_cons
def Vat:=@List.mem_cons_self
def Vau:=@List.append_nil
def Vav:=@List.mem_of_getElem?
def Vaw:=@Nat.le_of_lt
def Vax:=@List.getElem?_append_right
def Vay:=@Option.map_eq_some_iff
def Vaz:=@Bool.eq_iff_iff
def VaA:=@Nat.zero_le
def VaB:=@List.length_append
def VaC:=@List.any_cons
def VaD:=@List.getElem?_cons_succ
def VaE:=@List.filterMap_cons
def VaF:=@List.nodup_cons
def VaG:=@List.of_mem_zip
def VaH:=@List.length_map
def VaI:=@Nat.le_succ
def VaJ:=@Nat.log2_lt
def VaK:=@Int.emod_nonneg
def VaL:=@Int.emod_lt_of_pos
def VaM:=@List.mem_iff_getElem
def VaN:=@Bool.and_eq_true_iff
def VaO:=@List.range_succ
def VaP:=@List.map_append
def VaQ:=@List.mem_append_left
def VaR:=@Nat.ne_of_gt
def VaS:=@List.mem_filterMap
def VaT:=@List.map_nil
def VaU:=@Nat.not_lt
def VaV:=@Option.map_some
def VaW:=@List.getElem?_eq_getElem
def VaX:=@Int.ne_of_gt
def VaY:=@Option.bind_eq_some_iff
def VaZ:=@List.mem_filter
def Va0:=@List.mem_append
def Va1:=@Option.isSome_iff_exists
def Va2:=@List.getElem?_replicate
def Va3:=@Nat.lt_of_le_of_lt
def Va4:=@List.filter_cons
def Va5:=@Int.fdiv_eq_ediv_of_dvd
def Va6:=@Int.ediv_mul_cancel
def Va7:=@List.forIn_cons
def Va8:=@Bool.or_eq_true
def Va9:=@List.flatMap_cons
def Vba:=@List.length_cons
def Vbb:=@List.length_nil
def Vbc:=@List.cons_append
def Vbd:=@List.nil_append
def Vbe:=@List.getElem?_cons_zero
def Vbf:=@List.set_cons_zero
def Vbg:=@List.set_cons_succ
def Vbh:=@List.getD_eq_getElem?_getD
set_option Elab.async false
set_option linter.all false
set_option maxRecDepth 100000
set_option genSizeOf false
set_option bootstrap.genMatcherCode false
set_option compiler.extract_closed false
set_option maxHeartbeats 40000000
namespace L2
open PySem PySem.Spec PyProof.Rows
def zfH (s:Stmt)(j:Nat):Stmt:=match s with
 | .ClassDef _ _ _ body _ _ _ _ _ _ _=>body.getD j (.Pass ⟨0,0,0,0⟩)
 | _=>.Pass ⟨0,0,0,0⟩
def zbO (s:Stmt):Arguments:=match s with
 | .FunctionDef _ a _ _ _ _ _ _ _ _=>a
 | _=>{ posonlyargs:=[],args:=[],vararg:=none,kwonlyargs:=[],kw_defaults:=[],kwarg:=none,defaults:=[] }
def zaW (s:Stmt):List Stmt:=match s with
 | .FunctionDef _ _ b _ _ _ _ _ _ _=>b
 | _=>[]
def zak (s:Stmt):Scope:=match s with
 | .FunctionDef _ _ _ _ _ _ sc _ _ _=>sc
 | _=>{ kind:=.function,names:=[],isGenerator:=false,isCoroutine:=false }
end L2
namespace L3
open PySem PySem.W PyProof.Rows PySem.Calls
def goT (tb:String→Option Builtin)(p:Program)(w:World)(n₀:Nat)(ann:Option Value):Nat→SharedT→Thread→Option SharedT
 | 0,_,_=>none
 | k+1,s,t=>bif through t then some s else bif stepOk n₀ ann t then (stepT (denote tb) p w s t).bind (λr=>goT tb p w n₀ ann k r.1 r.2) else none
theorem zfL {tb:String→Option Builtin}{p:Program}{w:World}{n₀:Nat}{ann:Option Value}:∀ {n:Nat} {s s':SharedT} {t:Thread},goT tb p w n₀ ann n s t=some s'→topRun tb p w n₀ ann n s.abs t=some s'.abs
 | 0,_,_,_,q=>nomatch q
 | n+1,s,s',t,q=>by
  unfold goT at q;unfold topRun;cases c1:through t
  ·rw[c1] at q;cases c2:stepOk n₀ ann t
   ·rw[c2] at q;exact nomatch q
   ·rw[c2] at q;obtain⟨⟨s2,t2⟩,c3,q⟩:=VaY.mp q;rw[stepT_spec c3];exact zfL q
  ·rw[c1] at q;cases q;rfl
def zep (os:Array Obj):Nat→Nat→Nat→BT
 | 0,_,_=>.nil
 | f+1,a,b=>match os[b]? with
  | some o=>.node o (zep os f (2*a) (a+b)) (zep os f (2*a) (2*a+b))
  | none=>.nil
noncomputable def bootT (P:Params):BT:=zep (boot_heap P).objs 6 1 0
noncomputable abbrev zgo (w:World)(os:OsState):SharedT:=⟨bootT w.params,11,(boot_heap w.params).life,Array.mk [],boot_drawn,boot_toks,os⟩
def zc0 (s:SharedT)(a:Addr):Option Obj:=if a<s.n then (match s.tree.get a with | some o=>alive o | none=>s.abs.heap.get? a) else none
theorem zi4 (s:SharedT)(a:Addr):s.abs.heap.get? a=zc0 s a:=by
 unfold zc0;split
 ·rename_i h;cases e:s.tree.get a with
  | none=>rfl
  | some o=>exact abs_get h e
 ·rename_i h;exact abs_get_none h
theorem zj9 (l:List Addr)(s:SharedT):l.map s.abs.heap.get?=l.map (zc0 s):=List.map_congr_left λa _=>zi4 s a
noncomputable abbrev zge (p q:Program)(loose:List Str)(Xt:Shared→Bool){α:Type}(YT:SharedT→α)(g0:Bool)(w:World)(s:SharedT):=
 ((staticsOk (importedModules p.main.body) (boot_heap w.params) s.abs.heap&&namesBound p s.abs.heap&&gensDone s.abs&&laidKept (boot_heap w.params) s.abs.heap),openSeen q loose (importedModules p.main.body) Xt g0 s.abs,YT s)
theorem zig {p q:Program}{loose:List Str}{Xt:Shared→Bool}{α:Type}{Yf:Shared→α}{YT:SharedT→α}{Ya:World→α}{N:Nat}{g0:Bool}{ann:Option Value}(hY:∀s:SharedT,Yf s.abs=YT s)(e:opening p=plainProg p.main.scope.names)(hN:Nat.ble 600 N=true)(f:∀s,fenceModules? p s=some s)
  (size:∀w:World,((boot_heap w.params).isNs mainGlobals&&(Array.mk []:Array GenState).size==0,(boot_heap w.params).objs.size,(boot_heap w.params).nsMap mainGlobals "__annotations__")=(true,11,ann))
  (run:∀w:World,(λos=>(goT treeTable p w 11 ann N (zgo w os) (topStub p)).map λs=>zge p q loose Xt YT g0 w s)=λ_=>some (true,openGood q loose,Ya w)):LeftO p q loose Xt Yf Ya N g0:=λw=>by
 obtain⟨⟨h,gs,d,k,os⟩,e1,e'⟩:=Vay.mp (boot_open e hN f w);obtain⟨rfl,rfl,rfl,rfl⟩:h=boot_heap w.params∧gs=Array.mk []∧d=boot_drawn∧k=boot_toks:=by simpa using e'
 obtain⟨y1,y2,y3⟩:_∧_∧_:=by simpa only [Prod.mk.injEq] using size w
 obtain⟨s',r1,r2⟩:=Vay.mp (congrFun (run w) os);obtain⟨l1,l2,l3⟩:_∧_∧_:=by simpa only [Prod.mk.injEq] using r2
 have r:topRun treeTable p w 11 ann N ⟨boot_heap w.params,Array.mk [],boot_drawn,boot_toks,os⟩ (topStub p)=some s'.abs:=by
  have z:=zfL r1;exact z
 have t:topFrom treeTable p w N ⟨boot_heap w.params,Array.mk [],boot_drawn,boot_toks,os⟩=some s'.abs:=by
  unfold topFrom;dsimp only;rw[y1,y2,y3,r];show (match staticsOk (importedModules p.main.body) (boot_heap w.params) s'.abs.heap&&namesBound p s'.abs.heap&&gensDone s'.abs&&laidKept (boot_heap w.params) s'.abs.heap with | true=>_ | false=>_)=_;rw[l1]
 unfold openEnds;rw[e1];show Option.map _ (topFrom treeTable p w N _)=_;rw[t];exact congrArg some (Prod.ext l2 ((hY s').trans l3))
end L3
namespace Mine
open PySem PySem.Spec PyProof.Rows L2 L3
def top (i:Nat):Stmt:=PySem.Challenge.pw_boxnarrow_k10_what_is_refused.main.body.getD i (.Pass ⟨0,0,0,0⟩)
def vw:Program:={ PySem.Challenge.pw_boxnarrow_k10_what_is_refused with main:={ PySem.Challenge.pw_boxnarrow_k10_what_is_refused.main with body:=[top 1,top 2,top 3,top 4,top 5,top 6,top 7,top 8,top 9,top 11,top 12,top 13,top 14,top 16,top 17,top 18,top 19,top 20,top 22,top 23,top 24,top 25,top 26,top 27,top 28] } }
noncomputable abbrev de (P:Params)(s:Str)(t:Tok)(v:Value):DictEntry:=⟨PySem.PyData.keyHash P s,.str s t,v⟩
abbrev co (n q:Str)(a b c d:Tok)(i k:Int)(r s:Addr)(y z:Value)(t:Addr)(j:Int):Obj:=⟨.type "code",none,.fields #[.str n a,.str q b,.str "/claim/cut.py" c,.int i 0,.int k 0,.int 0 0,.int 0 0,.int 3 0,.ref r,.bool Bool.true,.int 181 0,.ref s,.none,y,z,.ref t,.int j 0,.int i 0,.str "/claim/cut.py" d],#[]⟩
abbrev fo (n q:Str)(st:Stmt)(m:Value)(c:Addr):Obj:=⟨.type "function",none,.func (PySem.W.fnOf n q (zbO st) (zaW st) (zak st) .none .none .none m none (.ref c) .none),#[]⟩
noncomputable def kp:Params→PySem.W.Frag:=λP=>
 (nat_lit 3,(.mk (.type "dict") none (.dict #[(de P "__name__" 165 (.str "law_boxnarrow_k10_what_is_refused" 420)),(de P "__doc__" 166 .none),(de P "__package__" 167 .none),(de P "__loader__" 168 (.builtin "__main__.__loader__#opaque")),(de P "__spec__" 169 .none),(de P "__annotations__" 170 (.ref 6)),(de P "__builtins__" 171 (.ref 4)),(de P "__file__" 173 (.str "/claim/cut.py" 172)),(de P "__cached__" 174 .none),(de P "BoxError" 206 (.ref 24)),(de P "NoNumber" 222 (.ref 37)),(de P "NoSpan" 238 (.ref 49)),(de P "NoCut" 254 (.ref 61)),(de P "NoRow" 270 (.ref 73)),(de P "TooMuch" 286 (.ref 85)),(de P "NoTask" 302 (.ref 97)),(de P "NoBook" 318 (.ref 109)),(de P "NoName" 343 (.ref 128)),(de P "is_whole" 352 (.ref 137)),(de P "greatest_divisor" 361 (.ref 144)),(de P "fraction" 370 (.ref 151)),(de P "less" 378 (.ref 158)),(de P "rounded_up" 388 (.ref 165)),(de P "span_of" 397 (.ref 172)),(de P "width" 404 (.ref 179)),(de P "middle" 411 (.ref 186)),(de P "halves" 419 (.ref 193)),(de P "_law_cell_at" 429 (.ref 200)),(de P "_law_number" 437 (.ref 207)),(de P "_law_kinds" 444 (.ref 214)),(de P "_law_own" 450 (.ref 219)),(de P "_law_asked" 456 (.ref 224)),(de P "_law_text" 462 (.ref 229)),(de P "law" 475 (.ref 236))] 34) #[]))::
 (nat_lit 23,(.mk (.type "dict") none (.dict #[(de P "__module__" 196 (.str "boxnarrow.errors" 187)),(de P "__firstlineno__" 200 (.int 2 199)),(de P "__static_attributes__" 201 (.ref 22)),(de P "__weakref__" 203 (.ref 25)),(de P "__doc__" 204 .none)] 3) #[]))::
 (nat_lit 24,(.mk (.type "type") none (.cls (PySem.ClassData.mk "BoxError" [(.type "ValueError")] [(.ref 24),(.type "ValueError"),(.type "Exception"),(.type "BaseException"),(.type "object")] 23 "BoxError" Bool.true [] [(.ref 37),(.ref 49),(.ref 61),(.ref 73),(.ref 85),(.ref 97),(.ref 109),(.ref 128)] Bool.false none Bool.false)) #[(some (.ref 15)),none,(some (.str "BoxError" 189)),(some (.str "BoxError" 197)),(some (.builtin "ValueError.__new__")),(some (.bool Bool.true))]))::
 (nat_lit 36,(.mk (.type "dict") none (.dict #[(de P "__module__" 214 (.str "boxnarrow.errors" 187)),(de P "__firstlineno__" 218 (.int 4 217)),(de P "__static_attributes__" 219 (.ref 35)),(de P "__doc__" 220 .none)] 2) #[]))::
 (nat_lit 37,(.mk (.type "type") none (.cls (PySem.ClassData.mk "NoNumber" [(.ref 24)] [(.ref 37),(.ref 24),(.type "ValueError"),(.type "Exception"),(.type "BaseException"),(.type "object")] 36 "NoNumber" Bool.true [] [] Bool.false none Bool.false)) #[(some (.ref 28)),none,(some (.str "NoNumber" 207)),(some (.str "NoNumber" 215)),(some (.builtin "ValueError.__new__")),(some (.bool Bool.true))]))::
 (nat_lit 48,(.mk (.type "dict") none (.dict #[(de P "__module__" 230 (.str "boxnarrow.errors" 187)),(de P "__firstlineno__" 234 (.int 6 233)),(de P "__static_attributes__" 235 (.ref 47)),(de P "__doc__" 236 .none)] 2) #[]))::
 (nat_lit 49,(.mk (.type "type") none (.cls (PySem.ClassData.mk "NoSpan" [(.ref 24)] [(.ref 49),(.ref 24),(.type "ValueError"),(.type "Exception"),(.type "BaseException"),(.type "object")] 48 "NoSpan" Bool.true [] [] Bool.false none Bool.false)) #[(some (.ref 40)),none,(some (.str "NoSpan" 223)),(some (.str "NoSpan" 231)),(some (.builtin "ValueError.__new__")),(some (.bool Bool.true))]))::
 (nat_lit 60,(.mk (.type "dict") none (.dict #[(de P "__module__" 246 (.str "boxnarrow.errors" 187)),(de P "__firstlineno__" 250 (.int 8 249)),(de P "__static_attributes__" 251 (.ref 59)),(de P "__doc__" 252 .none)] 2) #[]))::
 (nat_lit 61,(.mk (.type "type") none (.cls (PySem.ClassData.mk "NoCut" [(.ref 24)] [(.ref 61),(.ref 24),(.type "ValueError"),(.type "Exception"),(.type "BaseException"),(.type "object")] 60 "NoCut" Bool.true [] [] Bool.false none Bool.false)) #[(some (.ref 52)),none,(some (.str "NoCut" 239)),(some (.str "NoCut" 247)),(some (.builtin "ValueError.__new__")),(some (.bool Bool.true))]))::
 (nat_lit 72,(.mk (.type "dict") none (.dict #[(de P "__module__" 262 (.str "boxnarrow.errors" 187)),(de P "__firstlineno__" 266 (.int 10 265)),(de P "__static_attributes__" 267 (.ref 71)),(de P "__doc__" 268 .none)] 2) #[]))::
 (nat_lit 73,(.mk (.type "type") none (.cls (PySem.ClassData.mk "NoRow" [(.ref 24)] [(.ref 73),(.ref 24),(.type "ValueError"),(.type "Exception"),(.type "BaseException"),(.type "object")] 72 "NoRow" Bool.true [] [] Bool.false none Bool.false)) #[(some (.ref 64)),none,(some (.str "NoRow" 255)),(some (.str "NoRow" 263)),(some (.builtin "ValueError.__new__")),(some (.bool Bool.true))]))::
 (nat_lit 84,(.mk (.type "dict") none (.dict #[(de P "__module__" 278 (.str "boxnarrow.errors" 187)),(de P "__firstlineno__" 282 (.int 12 281)),(de P "__static_attributes__" 283 (.ref 83)),(de P "__doc__" 284 .none)] 2) #[]))::
 (nat_lit 85,(.mk (.type "type") none (.cls (PySem.ClassData.mk "TooMuch" [(.ref 24)] [(.ref 85),(.ref 24),(.type "ValueError"),(.type "Exception"),(.type "BaseException"),(.type "object")] 84 "TooMuch" Bool.true [] [] Bool.false none Bool.false)) #[(some (.ref 76)),none,(some (.str "TooMuch" 271)),(some (.str "TooMuch" 279)),(some (.builtin "ValueError.__new__")),(some (.bool Bool.true))]))::
 (nat_lit 96,(.mk (.type "dict") none (.dict #[(de P "__module__" 294 (.str "boxnarrow.errors" 187)),(de P "__firstlineno__" 298 (.int 14 297)),(de P "__static_attributes__" 299 (.ref 95)),(de P "__doc__" 300 .none)] 2) #[]))::
 (nat_lit 97,(.mk (.type "type") none (.cls (PySem.ClassData.mk "NoTask" [(.ref 24)] [(.ref 97),(.ref 24),(.type "ValueError"),(.type "Exception"),(.type "BaseException"),(.type "object")] 96 "NoTask" Bool.true [] [] Bool.false none Bool.false)) #[(some (.ref 88)),none,(some (.str "NoTask" 287)),(some (.str "NoTask" 295)),(some (.builtin "ValueError.__new__")),(some (.bool Bool.true))]))::
 (nat_lit 108,(.mk (.type "dict") none (.dict #[(de P "__module__" 310 (.str "boxnarrow.errors" 187)),(de P "__firstlineno__" 314 (.int 16 313)),(de P "__static_attributes__" 315 (.ref 107)),(de P "__doc__" 316 .none)] 2) #[]))::
 (nat_lit 109,(.mk (.type "type") none (.cls (PySem.ClassData.mk "NoBook" [(.ref 24)] [(.ref 109),(.ref 24),(.type "ValueError"),(.type "Exception"),(.type "BaseException"),(.type "object")] 108 "NoBook" Bool.true [] [] Bool.false none Bool.false)) #[(some (.ref 100)),none,(some (.str "NoBook" 303)),(some (.str "NoBook" 311)),(some (.builtin "ValueError.__new__")),(some (.bool Bool.true))]))::
 (nat_lit 124,co "__init__" "NoName.__init__" 331 332 333 337 20 2 119 120 (.ref 121) (.ref 122) 123 336)::
 (nat_lit 125,fo "__init__" "NoName.__init__" (zfH (top 9) 0) (.str "boxnarrow.errors" 187) 124)::
 (nat_lit 127,(.mk (.type "dict") none (.dict #[(de P "__module__" 326 (.str "boxnarrow.errors" 187)),(de P "__firstlineno__" 330 (.int 18 329)),(de P "__init__" 338 (.ref 125)),(de P "__static_attributes__" 340 (.ref 126)),(de P "__doc__" 341 .none)] 2) #[]))::
 (nat_lit 128,(.mk (.type "type") none (.cls (PySem.ClassData.mk "NoName" [(.ref 24)] [(.ref 128),(.ref 24),(.type "ValueError"),(.type "Exception"),(.type "BaseException"),(.type "object")] 127 "NoName" Bool.true [] [] Bool.false none Bool.false)) #[(some (.ref 112)),none,(some (.str "NoName" 319)),(some (.str "NoName" 327)),(some (.builtin "ValueError.__new__")),(some (.bool Bool.true))]))::
 (nat_lit 136,co "is_whole" "is_whole" 346 347 348 351 23 1 131 132 (.ref 133) (.ref 134) 135 350)::
 (nat_lit 137,fo "is_whole" "is_whole" (top 11) (.str "boxnarrow.fractions" 344) 136)::
 (nat_lit 143,co "greatest_divisor" "greatest_divisor" 353 354 355 360 25 2 138 139 (.ref 140) (.ref 141) 142 359)::
 (nat_lit 144,fo "greatest_divisor" "greatest_divisor" (top 12) (.str "boxnarrow.fractions" 344) 143)::
 (nat_lit 150,co "fraction" "fraction" 362 363 364 369 31 2 145 146 (.ref 147) (.ref 148) 149 368)::
 (nat_lit 151,fo "fraction" "fraction" (top 13) (.str "boxnarrow.fractions" 344) 150)::
 (nat_lit 157,co "less" "less" 371 372 373 377 38 2 152 153 (.ref 154) (.ref 155) 156 376)::
 (nat_lit 158,fo "less" "less" (top 14) (.str "boxnarrow.fractions" 344) 157)::
 (nat_lit 164,co "rounded_up" "rounded_up" 381 382 383 387 41 2 159 160 (.ref 161) (.ref 162) 163 386)::
 (nat_lit 165,fo "rounded_up" "rounded_up" (top 16) (.str "boxnarrow.spans" 379) 164)::
 (nat_lit 171,co "span_of" "span_of" 389 390 391 396 43 3 166 167 (.ref 168) (.ref 169) 170 395)::
 (nat_lit 172,fo "span_of" "span_of" (top 17) (.str "boxnarrow.spans" 379) 171)::
 (nat_lit 178,co "width" "width" 398 399 400 403 47 1 173 174 (.ref 175) (.ref 176) 177 402)::
 (nat_lit 179,fo "width" "width" (top 18) (.str "boxnarrow.spans" 379) 178)::
 (nat_lit 185,co "middle" "middle" 405 406 407 410 49 1 180 181 (.ref 182) (.ref 183) 184 409)::
 (nat_lit 186,fo "middle" "middle" (top 19) (.str "boxnarrow.spans" 379) 185)::
 (nat_lit 192,co "halves" "halves" 412 413 414 418 51 1 187 188 (.ref 189) (.ref 190) 191 417)::
 (nat_lit 193,fo "halves" "halves" (top 20) (.str "boxnarrow.spans" 379) 192)::
 (nat_lit 199,co "_law_cell_at" "_law_cell_at" 422 423 424 428 57 2 194 195 (.ref 196) (.ref 197) 198 427)::
 (nat_lit 200,fo "_law_cell_at" "_law_cell_at" (top 22) (.str "law_boxnarrow_k10_what_is_refused" 420) 199)::
 (nat_lit 206,co "_law_number" "_law_number" 430 431 432 436 61 2 201 202 (.ref 203) (.ref 204) 205 435)::
 (nat_lit 207,fo "_law_number" "_law_number" (top 23) (.str "law_boxnarrow_k10_what_is_refused" 420) 206)::
 (nat_lit 213,co "_law_kinds" "_law_kinds" 438 439 440 443 67 1 208 209 (.ref 210) (.ref 211) 212 442)::
 (nat_lit 214,fo "_law_kinds" "_law_kinds" (top 24) (.str "law_boxnarrow_k10_what_is_refused" 420) 213)::
 (nat_lit 218,co "_law_own" "_law_own" 445 446 447 449 69 2 215 216 .none .none 217 448)::
 (nat_lit 219,fo "_law_own" "_law_own" (top 25) (.str "law_boxnarrow_k10_what_is_refused" 420) 218)::
 (nat_lit 223,co "_law_asked" "_law_asked" 451 452 453 455 73 4 220 221 .none .none 222 454)::
 (nat_lit 224,fo "_law_asked" "_law_asked" (top 26) (.str "law_boxnarrow_k10_what_is_refused" 420) 223)::
 (nat_lit 228,co "_law_text" "_law_text" 457 458 459 461 87 2 225 226 .none .none 227 460)::
 (nat_lit 229,fo "_law_text" "_law_text" (top 27) (.str "law_boxnarrow_k10_what_is_refused" 420) 228)::
 (nat_lit 235,co "law" "law" 463 464 465 474 90 1 230 231 (.ref 232) (.ref 233) 234 473)::
 (nat_lit 236,fo "law" "law" (top 28) (.str "law_boxnarrow_k10_what_is_refused" 420) 235)::[]
def ks:List Addr:=nat_lit 3::nat_lit 23::nat_lit 24::nat_lit 36::nat_lit 37::nat_lit 48::nat_lit 49::nat_lit 60::nat_lit 61::nat_lit 72::nat_lit 73::nat_lit 84::nat_lit 85::nat_lit 96::nat_lit 97::nat_lit 108::nat_lit 109::nat_lit 124::nat_lit 125::nat_lit 127::nat_lit 128::nat_lit 136::nat_lit 137::nat_lit 143::nat_lit 144::nat_lit 150::nat_lit 151::nat_lit 157::nat_lit 158::nat_lit 164::nat_lit 165::nat_lit 171::nat_lit 172::nat_lit 178::nat_lit 179::nat_lit 185::nat_lit 186::nat_lit 192::nat_lit 193::nat_lit 199::nat_lit 200::nat_lit 206::nat_lit 207::nat_lit 213::nat_lit 214::nat_lit 218::nat_lit 219::nat_lit 223::nat_lit 224::nat_lit 228::nat_lit 229::nat_lit 235::nat_lit 236::[]
theorem zb5 (P:Params):ks=(kp P).map (·.1):=by kernel_rfl
noncomputable abbrev hk:PySem.W.Hook:=PySem.W.kHook kp ks zb5
abbrev xt (s:Shared):Bool:=PySem.W.xlAt vw [] s&&PySem.W.recOk (PySem.W.RowW.records (PySem.W.OpenRow.toRowW (PySem.W.OpenLaw.row PySem.Challenge.rw_boxnarrow_k10_what_is_refused))) s
theorem zeL:PySem.W.opening PySem.Challenge.pw_boxnarrow_k10_what_is_refused=PySem.W.plainProg PySem.Challenge.pw_boxnarrow_k10_what_is_refused.main.scope.names:=by kernel_rfl
theorem fe_eq (s:Shared):PySem.fenceModules? PySem.Challenge.pw_boxnarrow_k10_what_is_refused s=some s:=by kernel_rfl
theorem si_eq (w:World):((PySem.W.boot_heap w.params).isNs mainGlobals&&(Array.mk []:Array GenState).size==0,(PySem.W.boot_heap w.params).objs.size,(PySem.W.boot_heap w.params).nsMap mainGlobals "__annotations__")=(true,11,some (.ref 6)):=by kernel_rfl
theorem zhZ (w:World):(λos=>(L3.goT PySem.treeTable PySem.Challenge.pw_boxnarrow_k10_what_is_refused w 11 (some (.ref 6)) 4986 (L3.zgo w os) (PySem.W.topStub PySem.Challenge.pw_boxnarrow_k10_what_is_refused)).map λs=>L3.zge PySem.Challenge.pw_boxnarrow_k10_what_is_refused vw [] xt (λs=>ks.map (L3.zc0 s)) true w s)=λ_=>some (true,PySem.W.openGood vw [],hk.val w):=by kernel_rfl
theorem left:PySem.W.LeftO PySem.Challenge.pw_boxnarrow_k10_what_is_refused vw [] xt hk.obs hk.val 4986:=L3.zig (L3.zj9 ks) zeL (by decide) fe_eq si_eq zhZ
end Mine
set_option Elab.async false
set_option linter.all false
set_option maxRecDepth 100000
namespace L2
open PySem PySem.Spec PyProof.Rows
abbrev Key:=Sum Int Str
def zfn:Key→Value→Bool
 | .inl k,v=>Value.isInt k v
 | .inr x,v=>Value.isStrOf x v
def keyH (w:World):Key→Int
 | .inl k=>hashInt k
 | .inr x=>hashStr w x
theorem zbf:∀ {k:Key} {v:Value},zfn k v=true→(∃i t,k=Sum.inl i∧v=Value.int i t)∨(∃x t,k=Sum.inr x∧v=Value.str x t)
 | .inl i,v,h=>by
  obtain⟨t,e⟩:=Value.isInt_shape (k:=i) (v:=v) h;exact .inl ⟨i,t,rfl,e⟩
 | .inr x,v,h=>by
  obtain⟨t,e⟩:=Value.isStrOf_shape (x:=x) (v:=v) h;exact .inr ⟨x,t,rfl,e⟩
theorem zh2 (a b:Int):decide ((Sum.inl a:Key)=Sum.inl b)=(a==b):=by
 by_cases e:a=b
 ·subst e; simp
 ·have h:¬ (Sum.inl a:Key)=Sum.inl b:=λq=>e (Sum.inl.inj q)
  rw[decide_eq_false h];exact(beq_eq_false_iff_ne.mpr e).symm
theorem zii (a b:Str):decide ((Sum.inr a:Key)=Sum.inr b)=decide (a=b):=by
 by_cases e:a=b
 ·subst e; simp
 ·have h:¬ (Sum.inr a:Key)=Sum.inr b:=λq=>e (Sum.inr.inj q)
  rw[decide_eq_false h,decide_eq_false e]
theorem ziB (a:Int)(b:Str):decide ((Sum.inl a:Key)=Sum.inr b)=false:=decide_eq_false (λq=>nomatch q)
theorem zja (a:Str)(b:Int):decide ((Sum.inr a:Key)=Sum.inl b)=false:=decide_eq_false (λq=>nomatch q)
def zgt (prog:Program)(w:World):PySem.KeyKind prog w Key where
 is:=zfn
 hash:=keyH w
 inj:=λv a b ha hb=>by
  rcases zbf ha with ⟨i,t,rfl,rfl⟩ | ⟨x,t,rfl,rfl⟩
  ·rcases zbf hb with ⟨j,u,rfl,e⟩ | ⟨y,u,rfl,e⟩
   ·injection e with e1 _; rw[e1]
   ·exact nomatch e
  ·rcases zbf hb with ⟨j,u,rfl,e⟩ | ⟨y,u,rfl,e⟩
   ·exact nomatch e
   ·injection e with e1 _; rw[e1]
 byValue:=λk v h=>by
  rcases zbf h with ⟨i,t,rfl,rfl⟩ | ⟨x,t,rfl,rfl⟩ <;> rfl
 pyHash:=λhv h=>by
  rcases zbf hv with ⟨i,t,rfl,rfl⟩ | ⟨x,t,rfl,rfl⟩
  ·exact wpAny_pyHash_int h
  ·exact wpAny_pyHash_str h
 eqBool:=λhu hv h=>by
  rcases zbf hu with ⟨i,t,rfl,rfl⟩ | ⟨x,t,rfl,rfl⟩
  ·rcases zbf hv with ⟨j,u,rfl,rfl⟩ | ⟨y,u,rfl,rfl⟩
   ·rw[zh2] at h; exact wpAny_eqBool_int h
   ·rw[ziB] at h; exact SeqAt.EqAt.int_str i t y u _ _ _ _ h
  ·rcases zbf hv with ⟨j,u,rfl,rfl⟩ | ⟨y,u,rfl,rfl⟩
   ·rw[zja] at h; exact SeqAt.EqAt.str_int x t j u _ _ _ _ h
   ·rw[zii] at h; exact wpAny_eqBool_str h
 «strs»:=λk x t v h=>by
  rcases zbf h with ⟨i,u,rfl,e⟩ | ⟨y,u,rfl,e⟩
  ·exact nomatch e
  ·injection e with e1 _
   subst e1;cases v <;> rfl
end L2
namespace L2
open PySem PySem.Spec PyProof.Rows
inductive V where
 | non | bl (b:Bool) | int (i:Int) | str (x:Str) | byt (b:Array UInt8) | flt (b:UInt64) | ref (a:Addr) | ty (n:String)
 deriving DecidableEq
def zab:V→Value→Prop
 | .non,u=>u=Value.none
 | .bl b,u=>u=Value.bool b
 | .int i,u=>∃t,u=Value.int i t
 | .str x,u=>∃t,u=Value.str x t
 | .byt b,u=>∃t,u=Value.bytes b t
 | .flt b,u=>∃t,u=Value.float b t
 | .ref a,u=>u=Value.ref a
 | .ty n,u=>u=Value.type n
abbrev zac:List V→List Value→Prop:=Paired zab
theorem zac.length {xs:List V}{us:List Value}(r:zac xs us):xs.length=us.length:=Paired.length r
theorem zac.get:∀ {xs:List V} {us:List Value} {i:Nat} {x:V},zac xs us→xs[i]?=some x→∃u,us[i]?=some u∧zab x u
 | _,_,_,_,.nil,e=>by simp at e
 | _,_,0,_,.cons r _,e=>by simp at e; subst e; exact⟨_,rfl,r⟩
 | _,_,i+1,x,.cons _ t,e=>by
  obtain⟨u,h1,h2⟩:=zac.get (i:=i) (x:=x) t (by simpa using e);exact⟨u,by simpa using h1,h2⟩
theorem zac.set {x:V}{u:Value}(r:zab x u):∀ {xs:List V} {us:List Value} (i:Nat),zac xs us→zac (xs.set i x) (us.set i u)
 | _,_,_,.nil=>.nil
 | _,_,0,.cons _ t=>.cons r t
 | _,_,i+1,.cons q t=>.cons q (zac.set r i t)
theorem zac.append:∀ {xs ys:List V} {us ws:List Value},zac xs us→zac ys ws→zac (xs++ys) (us++ws)
 | _,_,_,_,.nil,s=>s
 | _,_,_,_,.cons r t,s=>.cons r (zac.append t s)
theorem zac.take:∀ {xs:List V} {us:List Value} (n:Nat),zac xs us→zac (xs.take n) (us.take n)
 | _,_,0,_=>.nil
 | _,_,_+1,.nil=>.nil
 | _,_,n+1,.cons r t=>.cons r (zac.take n t)
theorem zac.drop:∀ {xs:List V} {us:List Value} (n:Nat),zac xs us→zac (xs.drop n) (us.drop n)
 | _,_,0,r=>r
 | _,_,_+1,.nil=>.nil
 | _,_,n+1,.cons _ t=>zac.drop n t
def zbh:Option V→Option Value→Prop
 | some v,some u=>zab v u
 | none,none=>True
 | _,_=>False
def KV {κ:Type}:List (κ×V)→List (κ×Value)→Prop:=Paired λ(p:κ×V) (q:κ×Value)=>p.1=q.1∧zab p.2 q.2
def kV:Key→V
 | .inl i=>.int i
 | .inr x=>.str x
inductive HO where
  | lst (xs:List V)
  | tup (xs:List V)
  | dK (kvs:List (Key×V)) | dT (kvs:List (List Key×V))
  | set (S:Int→Bool) (n:Nat)
  | ins (C dx:Addr) (fs:List (Str×V))
  | own (x:Addr)
  | xd (fs:List (Str×V))
  | met (f x:Addr)
  | rng (lo hi:Int)
  | frz (o:Obj) (u:HO)
  | tbl (ps:Array Value)
  | ext (φ:Heap→Prop)
abbrev Hp:=Addr→Option HO
def upd (H:Hp)(a:Addr)(o:HO):Hp:=λb=>if b=a then some o else H b
theorem zaI {H:Hp}{a:Addr}{o:HO}:upd H a o a=some o:=by unfold upd; rw[if_pos rfl]
theorem zah {H:Hp}{a b:Addr}{o:HO}(h:b≠a):upd H a o b=H b:=by unfold upd; rw[if_neg h]
theorem zfS {H:Hp}{a:Addr}{o u:HO}:upd (upd H a o) a u=upd H a u:=by
 funext b; unfold upd; split <;> rfl
theorem zeY {H:Hp}{a b:Addr}{o u:HO}(h:H a=some o)(h':H b=some u)(d:o≠u):a≠b:=by
 intro e; subst e; rw[h] at h'; exact d (Option.some.inj h')
theorem zaG {H:Hp}{a b:Addr}{o:HO}(h:H a=some o)(h':H b=none):a≠b:=by
 intro e; subst e; rw[h] at h'; cases h'
section
variable (P:Program)(w:World)
def zaC (H:Hp)(h:Heap)(a:Addr):HO→Prop
 | .lst xs=>xs.length≤sizeLine∧∃(its:List Value) (n:Nat),zac xs its∧h.get? a=some { cls:=.type "list",data:=.seq its.toArray n }
 | .tup xs=>xs.length≤sizeLine∧∃its:List Value,zac xs its∧IsTup h a its.toArray
 | .dK kvs=>kvs.length≤sizeLine∧(a==sysModules)=false∧∃vs,KV kvs vs∧h.DictOf (zgt P w) a vs
 | .dT kvs=>kvs.length≤sizeLine∧(a==sysModules)=false∧∃xs:List (List Key×Addr×Value),
   Paired (λ(p:List Key×V) (q:List Key×Addr×Value)=>p.1=q.1∧H q.2.1=some (.tup (p.1.map kV))∧zab p.2 q.2.2) kvs xs∧
   ∃o es ep,h.get? a=some o∧o.ExactDict∧o.data=.dict es ep∧es.toList=xs.map (entryOfKey (tupleKind (zgt P w)))∧(xs.map (·.1)).Nodup
 | .set S n=>h.SetOf (intKind P w) a S n
 | .ins C dx fs=>H dx=some (.own a)∧fs.length≤1000∧dx≠a∧h.get? a=some (PySem.W.instObj C dx)∧
   ∃mA,h.Ns1 dx mA∧(∀f,zbh (fs.lookup f) (mA f))∧PySem.Within mA (fs.map (·.1))
 | .own _=>∃o,h.get? a=some o
 | .xd fs=>∃mA,h.Ns1 a mA∧∀f,zbh (fs.lookup f) (mA f)
 | .rng lo hi=>∃t u v,h.get? a=some { cls:=.type "range",data:=.fields #[.int lo t,.int hi u,.int 1 v] }
 | .frz o u=>h.get? a=some o∧zaC H h a u
 | .tbl ps=>h.get? a=some { cls:=.none,data:=.fields ps }
 | .met f x=>h.get? a=some (PySem.W.methodObj (.ref f) (.ref x))
 | .ext φ=>φ h∧(∃o,h.get? a=some o)∧∀h1 h2:Heap,φ h1→(∀o,h1.get? a=some o→h2.get? a=some o)→φ h2
def HOk (H:Hp)(h:Heap):Prop:=∀a o,H a=some o→zaC P w H h a o
end
section
variable {P:Program}{w:World}{H H':Hp}{h h':Heap}{a:Addr}{o:HO}
theorem zaC.lt (x:zaC P w H h a o):a<h.objs.size:=by
 cases o with
 | lst xs=>obtain⟨_,_,_,_,e⟩:=x; exact Heap.lt_size e
 | tup xs=>obtain⟨_,_,_,p⟩:=x; exact p.lt
 | dK kvs=>obtain⟨_,_,_,_,o,_,_,e,_⟩:=x; exact Heap.lt_size e
 | dT kvs=>obtain⟨_,_,_,_,o,_,_,e,_⟩:=x; exact Heap.lt_size e
 | set S n=>obtain⟨o,_,_,_,e,_⟩:=x; exact Heap.lt_size e
 | ins C dx fs=>obtain⟨_,_,_,e,_⟩:=x; exact Heap.lt_size e
 | own y=>obtain⟨_,e⟩:=x; exact Heap.lt_size e
 | xd fs=>obtain⟨_,⟨_,_,_,e,_⟩,_⟩:=x; exact Heap.lt_size e
 | rng lo hi=>obtain⟨_,_,_,e⟩:=x; exact Heap.lt_size e
 | frz ob u=>obtain⟨e,_⟩:=x; exact Heap.lt_size e
 | tbl ps=>exact Heap.lt_size (show h.get? a=some _ from x)
 | met f y=>exact Heap.lt_size (show h.get? a=some _ from x)
 | ext φ=>obtain⟨_,⟨_,e⟩,_⟩:=x; exact Heap.lt_size e
theorem Paired.mapP {α β:Type}{F G:α→β→Prop}:∀ {l₁:List α} {l₂:List β},Paired F l₁ l₂→(∀a b,F a b→G a b)→Paired G l₁ l₂
 | _,_,.nil,_=>.nil
 | _,_,.cons r t,f=>.cons (f _ _ r) (Paired.mapP t f)
theorem zaC.stay (x:zaC P w H h a o)(k:∀b u,(b=a∨H b=some (.own a))→h.get? b=some u→h'.get? b=some u)
  (ho:∀b,H b=some (.own a)→H' b=some (.own a))(ht:∀b xs,H b=some (.tup xs)→H' b=some (.tup xs)):zaC P w H' h' a o:=by
 induction o with
 | lst xs=>obtain⟨z,its,n,r,e⟩:=x; exact⟨z,its,n,r,k _ _ (.inl rfl) e⟩
 | tup xs=>obtain⟨z,its,r,ob,e,c⟩:=x; exact⟨z,its,r,ob,k _ _ (.inl rfl) e,c⟩
 | dK kvs=>obtain⟨z,y,vs,r,ob,es,ep,e,c⟩:=x; exact⟨z,y,vs,r,ob,es,ep,k _ _ (.inl rfl) e,c⟩
 | dT kvs=>
  obtain⟨z,y,xs,r,ob,es,ep,e,c⟩:=x;exact⟨z,y,xs,Paired.mapP r λp q z=>⟨z.1,ht _ _ z.2.1,z.2.2⟩,ob,es,ep,k _ _ (.inl rfl) e,c⟩
 | set S n=>obtain⟨ob,es,ep,t,e,c⟩:=x; exact⟨ob,es,ep,t,k _ _ (.inl rfl) e,c⟩
 | ins C dx fs=>
  obtain⟨d,z,ne,e,mA,⟨od,es,ep,e2,c⟩,r⟩:=x;exact⟨ho _ d,z,ne,k _ _ (.inl rfl) e,mA,⟨od,es,ep,k _ _ (.inr d) e2,c⟩,r⟩
 | own y=>obtain⟨ob,e⟩:=x; exact⟨ob,k _ _ (.inl rfl) e⟩
 | xd fs=>obtain⟨mA,⟨od,es,ep,e,c⟩,r⟩:=x; exact⟨mA,⟨od,es,ep,k _ _ (.inl rfl) e,c⟩,r⟩
 | rng lo hi=>obtain⟨t,u,v,e⟩:=x; exact⟨t,u,v,k _ _ (.inl rfl) e⟩
 | frz ob u ih=>obtain⟨e,q⟩:=x; exact⟨k _ _ (.inl rfl) e,ih q⟩
 | tbl ps=>
  have e:h.get? a=some { cls:=.none,data:=.fields ps }:=x
  show h'.get? a=some { cls:=.none,data:=.fields ps };exact k a _ (.inl rfl) e
 | met f y=>
  have e:h.get? a=some (PySem.W.methodObj (.ref f) (.ref y)):=x
  show h'.get? a=some (PySem.W.methodObj (.ref f) (.ref y));exact k a _ (.inl rfl) e
 | ext φ=>obtain⟨p,⟨o,e⟩,st⟩:=x; exact⟨st _ _ p λo q=>k _ _ (.inl rfl) q,⟨o,k _ _ (.inl rfl) e⟩,st⟩
theorem HOk.lt (x:HOk P w H h)(e:H a=some o):a<h.objs.size:=(x a o e).lt
theorem HOk.fresh (x:HOk P w H h)(e:h.objs.size≤a):H a=none:=by
 cases q:H a with
 | none=>rfl
 | some u=>exact absurd (Vaa (x.lt q) e) (Val _)
theorem HOk.kept (x:HOk P w H h)(k:∀b u,h.get? b=some u→h'.get? b=some u):HOk P w H h':=λa o e=>
 (x a o e).stay (λb u _ q=>k b u q) (λ_ q=>q) λ_ _ q=>q
theorem HOk.laid (x:HOk P w H h)(k:∀b u,h.get? b=some u→h'.get? b=some u)(hp:h.objs.size≤a)(new:zaC P w (upd H a o) h' a o):HOk P w (upd H a o) h':=λb u e=>by
 have hn:=x.fresh hp;by_cases hb:b=a
 ·subst hb; rw[zaI] at e; cases e; exact new
 ·rw[zah hb] at e;exact(x b u e).stay (λc v _ q=>k c v q) (λc q=>by rw[zah (zaG q hn)]; exact q) λc xs q=>by rw[zah (zaG q hn)]; exact q
end
def Rd (H:Hp)(a:Addr)(u:HO):Prop:=H a=some u∨∃o,H a=some (.frz o u)
theorem Rd.of {H:Hp}{a:Addr}{u:HO}(h:H a=some u):Rd H a u:=.inl h
theorem Rd.ok {P:Program}{w:World}{H:Hp}{h:Heap}{a:Addr}{u:HO}(r:Rd H a u)(x:HOk P w H h):zaC P w H h a u:=by
 rcases r with r | ⟨o,r⟩
 ·exact x a u r
 ·obtain⟨_,q⟩:=x a _ r;exact q
def Mut:Option HO→Prop
 | some (.lst _)=>True
 | some (.dK _)=>True
 | some (.dT _)=>True
 | some (.set _ _)=>True
 | some (.ins _ _ _)=>True
 | some (.ext _)=>True
 | _=>False
section
variable {P:Program}{w:World}{H:Hp}{h h':Heap}{x e:Addr}{o':HO}
theorem HOk.write (ok:HOk P w H h)(mu:Mut (H x))(he:e=x∨H e=some (.own x))(k:∀b u,b≠e→h.get? b=some u→h'.get? b=some u)(heo:∃u,h'.get? e=some u)
  (new:zaC P w (upd H x o') h' x o'):HOk P w (upd H x o') h':=λb u q=>by
 have nown:∀c y,H c=some (.own y)→c≠x:=λc y r z=>by subst z; rw[r] at mu; exact mu
 have ntup:∀c xs,H c=some (.tup xs)→c≠x:=λc xs r z=>by subst z; rw[r] at mu; exact mu
 by_cases hb:b=x
 ·subst hb; rw[zaI] at q; cases q; exact new
 ·rw[zah hb] at q;by_cases hbe:b=e
  ·have q':H b=some (.own x):=by
    rcases he with z | z
    ·exact absurd (hbe.trans z) hb
    ·rw[hbe]; exact z
   rw[q] at q'; cases q'
   obtain⟨v,hv⟩:=heo;exact⟨v,by rw[hbe]; exact hv⟩
  ·refine(ok b u q).stay (λc v hc r=>k c v ?_ r) (λc r=>by rw[zah (nown c b r)]; exact r) λc xs r=>by rw[zah (ntup c xs r)]; exact r
   rcases hc with rfl | hc
   ·exact hbe
   ·rintro rfl;rcases he with z | z
    ·exact nown c b hc z
    ·rw[hc] at z; cases z; exact hb rfl
end
structure Un (fs ex:List Addr)(H H':Hp)(h h':Heap):Prop where
 keep:∀b o,h.get? b=some o→H b=none→b ∉ fs→b ∉ ex→h'.get? b=some o
 slot:∀b o,h.get? b=some o→H b=none→b∈fs→b ∉ ex→∃sl,h'.get? b=some { o with slots:=sl }
 free:∀b o,h.get? b=some o→H b=none→b ∉ ex→H' b=none
 there:∀b o,h.get? b=some o→b ∉ ex→∃o',h'.get? b=some o'
 tups:∀b xs,H b=some (.tup xs)→H' b=some (.tup xs)
 frzs:∀b o u,H b=some (.frz o u)→H' b=some (.frz o u)
 tbls:∀b ps,H b=some (.tbl ps)→∃more,H' b=some (.tbl (ps++more))
section
variable {fs fs' ex ex':List Addr}{H H1 H2:Hp}{h h1 h2 h':Heap}{a x e:Addr}{o:HO}
theorem Un.any (u:Un fs ex H H1 h h1){b:Addr}{ob:Obj}(q:h.get? b=some ob)(n:H b=none)(hx:b ∉ ex):∃sl,h1.get? b=some { ob with slots:=sl }:=by
 by_cases hb:b∈fs
 ·exact u.slot b ob q n hb hx
 ·exact⟨ob.slots,u.keep b ob q n hb hx⟩
theorem Un.trans (a:Un fs ex H H1 h h1)(b:Un fs ex H1 H2 h1 h2):Un fs ex H H2 h h2 where
 keep:=λc ob q n hc hx=>b.keep c ob (a.keep c ob q n hc hx) (a.free c ob q n hx) hc hx
 slot:=λc ob q n hc hx=>by
  obtain⟨sl,e1⟩:=a.slot c ob q n hc hx;obtain⟨sl',e2⟩:=b.slot c _ e1 (a.free c ob q n hx) hc hx;exact⟨sl',e2⟩
 free:=λc ob q n hx=>by
  obtain⟨o',e1⟩:=a.there c ob q hx;exact b.free c o' e1 (a.free c ob q n hx) hx
 there:=λc ob q hx=>by
  obtain⟨o',e1⟩:=a.there c ob q hx;exact b.there c o' e1 hx
 tups:=λc xs q=>b.tups c xs (a.tups c xs q)
 frzs:=λc ob xs q=>b.frzs c ob xs (a.frzs c ob xs q)
 tbls:=λc ps q=>by
  obtain⟨m1,e1⟩:=a.tbls c ps q;obtain⟨m2,e2⟩:=b.tbls c _ e1;exact⟨m1++m2,by rw[e2,Array.append_assoc]⟩
theorem Un.kept (k:∀b u,h.get? b=some u→h'.get? b=some u):Un fs ex H H h h':=
 ⟨λb ob q _ _ _=>k b ob q,λb ob q _ _ _=>⟨ob.slots,k b ob q⟩,λ_ _ _ n _=>n,λb ob q _=>⟨ob,k b ob q⟩,λ_ _ q=>q,λ_ _ _ q=>q,λ_ ps q=>⟨#[],by rw[q]; simp⟩⟩
theorem Un.refl:Un fs ex H H h h:=Un.kept λ_ _ q=>q
theorem Un.laid (k:∀b u,h.get? b=some u→h'.get? b=some u)(hp:h.objs.size≤a)(hn:H a=none):Un fs ex H (upd H a o) h h' where
 keep:=λb u q _ _ _=>k b u q
 slot:=λb u q _ _ _=>⟨u.slots,k b u q⟩
 free:=λb u q n _=>by rw[zah (Vab (Vaa (Heap.lt_size q) hp))]; exact n
 there:=λb u q _=>⟨u,k b u q⟩
 tups:=λb xs q=>by rw[zah (zaG q hn)]; exact q
 frzs:=λb u xs q=>by rw[zah (zaG q hn)]; exact q
 tbls:=λb ps q=>⟨#[],by rw[zah (zaG q hn),q]; simp⟩
theorem Un.write (mu:Mut (H x))(he:e=x∨H e=some (.own x))(k:∀b u,b≠e→h.get? b=some u→h'.get? b=some u)(heo:∃u,h'.get? e=some u):Un fs ex H (upd H x o) h h':=by
 have hx:∀b,H b=none→b≠x:=λb n z=>by subst z; rw[n] at mu; exact mu
 have hb:∀b,H b=none→b≠e:=λb n z=>by
  subst z;rcases he with r | r
  ·exact hx b n r
  ·rw[n] at r; cases r
 have hm:∀b u,H b=some u→¬ Mut (some u)→b≠x:=λb u q nm z=>by subst z; rw[q] at mu; exact nm mu
 refine⟨λb u q n _ _=>k b u (hb b n) q,λb u q n _ _=>⟨u.slots,k b u (hb b n) q⟩,λb u q n _=>by rw[zah (hx b n)]; exact n,λb u q _=>?_,
  λb xs q=>by rw[zah (hm b _ q λz=>z)]; exact q,λb u xs q=>by rw[zah (hm b _ q λz=>z)]; exact q,λb ps q=>⟨#[],by rw[zah (hm b _ q λz=>z),q]; simp⟩⟩
 by_cases hbe:b=e
 ·subst hbe; exact heo
 ·exact⟨u,k b u hbe q⟩
theorem Un.mono (u:Un fs ex H H1 h h1)(hs:∀b∈fs,b∈fs')(hx:∀b∈ex,b∈ex'):Un fs' ex' H H1 h h1:=
 ⟨λb ob q n hb he=>u.keep b ob q n (λz=>hb (hs b z)) λz=>he (hx b z),λ_ _ q n _ he=>u.any q n λz=>he (hx _ z),λb ob q n he=>u.free b ob q n λz=>he (hx b z),λb ob q he=>u.there b ob q λz=>he (hx b z),u.tups,u.frzs,u.tbls⟩
end
def trk (h:Heap)(H:Hp):List Addr:=(List.range h.objs.size).filter λa=>(H a).isSome
def zbi (h:Heap)(H:Hp):Heap:=PySem.W.hideAll h (trk h H)
theorem zgT (h:Heap)(H:Hp):(zbi h H).objs.size=h.objs.size:=PySem.W.hideAll_size _ _
theorem zh1 {h:Heap}{H:Hp}{b:Addr}{o:Obj}(e:h.get? b=some o)(n:H b=none):(zbi h H).get? b=some o:=
 PySem.W.hideAll_get _ e λhm=>by
  have q:(H b).isSome=true:=(VaZ.mp hm).2;rw[n] at q; simp at q
theorem zhr {h:Heap}{H:Hp}{b:Addr}{o:Obj}(e:(zbi h H).get? b=some o):h.get? b=some o∧H b=none:=by
 have e':h.get? b=some o:=PySem.W.of_hideAll (trk h H) e;refine⟨e',?_⟩;cases q:H b with
 | none=>rfl
 | some x=>
  have hm:b∈trk h H:=VaZ.mpr ⟨List.mem_range.mpr (Heap.lt_size e'),by simp[q]⟩
  have z:(zbi h H).get? b=none:=PySem.W.hideAll_none (trk h H) hm;rw[z] at e; cases e
def ziF (g h:Heap)(L:Addr):List (Addr×Obj):=(List.range h.objs.size).filterMap λa=>if a=L∨(g.get? a).isSome=true then none else (h.get? a).map λo=>(a,o)
def zaz (g h:Heap)(L d:Addr):List (Addr×Obj):=(ziF g h L).filter λp=>decide (p.1≠d)
end L2
namespace L2
open PySem PySem.Spec PyProof.Rows
structure Mod (K:PySem.W.Frag)(mg:Str→Option Value)(base:Heap):Prop where
 kin:K.In base
 glob:base.Ns mainGlobals mg
 blt:∃mb,base.Ns builtinsNs mb∧∀x:Str,x≠"__name__"→mb x=bootBuiltins x
 nolimit:base.NoLimit
structure Cx where
 prog:Program
 w:World
 K:PySem.W.Frag
 mg:Str→Option Value
 base:Heap
 A:Around
 N:List Str
 s₀:Shared
 H₀:Hp
 env:Env
 outer:List Env
 stack:List Env
 ex:List Addr
 fn:Str→Bool
 calm:Bool
 pn:List (Addr×Obj)
 xe:Value→Shared→Prop
def frs (l:List Env):List Addr:=l.filterMap (·.frame)
abbrev Cx.fs (X:Cx):List Addr:=frs X.outer
def Vis (sc:Scope)(x:Str):Prop:=sc.names.lookup x=some .local∨sc.names.lookup x=some .cell∨sc.names.lookup x=some .free
def Loc (sc:Scope)(x:Str):Prop:=sc.names.lookup x=some .local∨sc.names.lookup x=some .cell
def Look (env:Env)(h:Heap)(m:Str→Option Value)(x:Str)(u:Value):Prop:=
 (env.kindOf x=some .local∧m x=some u)∨((env.kindOf x=some .cell∨env.kindOf x=some .free)∧∃c,env.cells.lookup x=some c∧h.IsCell c (some u))
structure Cx.Ok (X:Cx):Prop where
 mod:Mod X.K X.mg X.base
 kind:X.env.scope.kind=.function
 glob:X.env.globals=mainGlobals
 blt:X.env.builtins=builtinsNs
 above:X.s₀.heap.objs.size≤X.env.locals
 inj:∀x y c,X.env.cells.lookup x=some c→X.env.cells.lookup y=some c→x=y
 has:∀x,(X.env.kindOf x=some .cell∨X.env.kindOf x=some .free)→∃c,X.env.cells.lookup x=some c
 cab:∀x c,X.fn x=true→X.env.cells.lookup x=some c→X.s₀.heap.objs.size≤c
 hd:X.calm=true→X.A.handled=none
 frames:X.A.frames=some X.stack
 stk:X.stack=X.outer∨(X.stack=X.env::X.outer∧X.env.frame=some X.env.locals)
 exf:∀b∈X.ex,b≠X.env.locals∧∀x c,X.env.cells.lookup x=some c→c≠b
 bs:∀b o,X.base.get? b=some o→X.s₀.heap.get? b=some o∧X.H₀ b=none
 bsz:X.base.objs.size≤X.s₀.heap.objs.size
 noex:∀b o,X.base.get? b=some o→b ∉ X.ex
 exfs:∀b∈X.ex,b ∉ X.fs
 funs:X.s₀.heap.FunFrames X.base X.outer
 frf:∀b∈X.fs,X.H₀ b=none
structure Inv (X:Cx)(pins:List (Addr×Obj))(σ:List (Option V))(H:Hp)(s:Shared):Prop where
 ok:X.Ok
 os:s.os=X.s₀.os
 bare:AllBare s.gens
 base:Un X.fs X.ex X.H₀ H X.s₀.heap s.heap
 loc:∃m,s.heap.Ns X.env.locals m∧∀(i:Nat) (x:Str) (v:V),X.N[i]?=some x→σ[i]?=some (some v)→Vis X.env.scope x→∃u,zab v u∧Look X.env s.heap m x u
 cell:∀x c,X.env.cells.lookup x=some c→∃v,s.heap.IsCell c v
 free:H X.env.locals=none
 freeC:∀x c,X.env.cells.lookup x=some c→H c=none
 pin:∀p∈X.pn++pins,s.heap.get? p.1=some p.2∧H p.1=none∧p.1≠X.env.locals∧p.1 ∉ X.fs∧∀v,p.2.data≠.cell v
 hok:HOk X.prog X.w H s.heap
 len:σ.length=X.N.length
section
variable {X:Cx}{pins:List (Addr×Obj)}{σ:List (Option V)}{H H':Hp}{s:Shared}{h':Heap}
theorem Cx.Ok.nofr (ok:X.Ok){b:Addr}{o:Obj}(e:X.base.get? b=some o):b ∉ X.fs:=λhb=>by
 have:=(ok.funs.mem hb).1;rw[e] at this; cases this
theorem Inv.bs (I:Inv X pins σ H s):∀b o,X.base.get? b=some o→s.heap.get? b=some o∧H b=none:=λb o e=>
 ⟨I.base.keep b o (I.ok.bs b o e).1 (I.ok.bs b o e).2 (I.ok.nofr e) (I.ok.noex b o e),I.base.free b o (I.ok.bs b o e).1 (I.ok.bs b o e).2 (I.ok.noex b o e)⟩
theorem Inv.bk (I:Inv X pins σ H s):∀b o,X.base.get? b=some o→s.heap.get? b=some o:=λb o e=>(I.bs b o e).1
theorem Inv.mod (I:Inv X pins σ H s):Mod X.K X.mg X.base:=I.ok.mod
theorem Inv.kIn (I:Inv X pins σ H s):X.K.In s.heap:=I.ok.mod.kin.keeps I.bk
theorem Inv.nolimit (I:Inv X pins σ H s):s.heap.NoLimit:=I.ok.mod.nolimit.keeps I.bk
theorem Inv.lt (I:Inv X pins σ H s):X.env.locals<s.heap.objs.size:=let ⟨_,hn,_⟩:=I.loc; hn.lt
theorem Inv.sz (I:Inv X pins σ H s):X.s₀.heap.objs.size≤s.heap.objs.size:=Vam I.ok.above (Vaw I.lt)
theorem Inv.nofs (I:Inv X pins σ H s){a:Addr}(h:s.heap.objs.size≤a):a ∉ X.fs:=λhb=>by
 obtain⟨_,o,ho,_⟩:=I.ok.funs.mem hb;exact absurd (Vaa (Heap.lt_size ho) (Vam I.sz h)) (Val _)
theorem Inv.cne (I:Inv X pins σ H s):∀x c,X.env.cells.lookup x=some c→c≠X.env.locals:=λx c e z=>by
 obtain⟨v,o,ho,hd⟩:=I.cell x c e;obtain⟨m,⟨o',es,ep,ho',hd',_⟩,_⟩:=I.loc;rw[z,ho'] at ho; cases ho; rw[hd'] at hd; cases hd
theorem Inv.funs (I:Inv X pins σ H s):s.heap.FunFrames X.base X.outer:=by
 have all:∀(l:List Env),(∀b∈frs l,b∈X.fs)→X.s₀.heap.FunFrames X.base l→s.heap.FunFrames X.base l:=by
  intro l
  induction l with
  | nil=>intro _ _; trivial
  | cons env r ih=>
   intro hs hl;obtain⟨hk,⟨L,o,hf,hn,ho,hd⟩,hr⟩:=hl;have hL:L∈X.fs:=hs L (by unfold frs; rw[VaE,hf]; exact Vat);obtain⟨sl,e⟩:=I.base.slot L o ho (I.ok.frf L hL) hL λz=>I.ok.exfs L z hL
   exact⟨hk,⟨L,_,hf,hn,e,hd⟩,ih (λb hb=>hs b (by unfold frs; rw[VaE,hf]; exact Vaq _ hb)) hr⟩
 exact all X.outer (λ_ hb=>hb) I.ok.funs
theorem Inv.stack (I:Inv X pins σ H s):s.heap.FunFrames X.base X.stack:=by
 rcases I.ok.stk with e | ⟨e,hf⟩
 ·rw[e]; exact I.funs
 ·rw[e];obtain⟨m,hn,_⟩:=I.loc;refine .cons (by rw[I.ok.kind]; decide) hf hn ?_ I.funs;exact Heap.get?_none_of_le (Vam I.ok.bsz I.ok.above)
theorem Inv.stkSub (I:Inv X pins σ H s):∀b∈frs X.stack,b∈X.env.locals::X.fs:=λb hb=>by
 rcases I.ok.stk with e | ⟨e,hf⟩
 ·rw[e] at hb; exact Vaq _ hb
 ·rw[e] at hb;unfold frs at hb;rw[VaE,hf] at hb;exact hb
theorem Inv.stkFree (I:Inv X pins σ H s):∀b∈frs X.stack,H b=none:=λb hb=>by
 rcases Vah.mp (I.stkSub b hb) with e | hb
 ·rw[e]; exact I.free
 ·obtain⟨_,o,ho,_⟩:=I.ok.funs.mem hb;exact I.base.free b o ho (I.ok.frf b hb) λz=>I.ok.exfs b z hb
theorem Inv.step {g':Array GenState}{t':Nat}{d':Drawn}{ch:List Addr}(I:Inv X pins σ H s)
  (hch:∀b∈ch,(b∈X.ex∨X.s₀.heap.objs.size≤b)∧b≠X.env.locals∧(∀x c,X.env.cells.lookup x=some c→c≠b)∧∀p∈X.pn++pins,p.1≠b)
  (keep:∀b o,b≠X.env.locals→b ∉ X.fs→b ∉ ch→s.heap.get? b=some o→H b=none→h'.get? b=some o)
  (slot:∀b o,b≠X.env.locals→b∈X.fs→b ∉ ch→s.heap.get? b=some o→H b=none→∃sl,h'.get? b=some { o with slots:=sl })(free:∀b o,b ∉ ch→s.heap.get? b=some o→H b=none→H' b=none)
  (there:∀b o,b ∉ ch→s.heap.get? b=some o→∃o',h'.get? b=some o')
  (tups:∀b xs,H b=some (.tup xs)→H' b=some (.tup xs))(frzs:∀b o u,H b=some (.frz o u)→H' b=some (.frz o u))(tbls:∀b ps,H b=some (.tbl ps)→∃more,H' b=some (.tbl (ps++more)))
  (ns:∀m,s.heap.Ns X.env.locals m→h'.Ns X.env.locals m)(hok:HOk X.prog X.w H' h')(hg:AllBare g'):
  Inv X pins σ H' { s with heap:=h',gens:=g',drawn:=d',toks:=t' }:=by
 have neL:∀b o,X.s₀.heap.get? b=some o→b≠X.env.locals:=λb o e=>Vab (Vaa (Heap.lt_size e) I.ok.above)
 have neC:∀b o,X.s₀.heap.get? b=some o→b ∉ X.ex→b ∉ ch:=λb o e hx hb=>by
  rcases (hch b hb).1 with z | z
  ·exact hx z
  ·exact absurd (Vaa (Heap.lt_size e) z) (Val _)
 have cellK:∀x c,X.env.cells.lookup x=some c→∀v,s.heap.IsCell c v→h'.IsCell c v:=λx c e v ⟨o,ho,hd⟩=>by
  have nch:c ∉ ch:=λz=>(hch c z).2.2.1 x c e rfl
  by_cases hc:c∈X.fs
  ·obtain⟨sl,q⟩:=slot c o (I.cne x c e) hc nch ho (I.freeC x c e);exact⟨_,q,hd⟩
  ·exact⟨o,keep c o (I.cne x c e) hc nch ho (I.freeC x c e),hd⟩
 refine⟨I.ok,I.os,hg,⟨λb o e n hb hx=>?_,λb o e n hb hx=>?_,λb o e n hx=>?_,λb o e hx=>?_,λb xs e=>tups b xs (I.base.tups b xs e),λb o xs e=>frzs b o xs (I.base.frzs b o xs e),λb ps e=>?_⟩,?_,λx c e=>?_,?_,λx c e=>?_,λp hp=>?_,hok,I.len⟩
 ·exact keep b o (neL b o e) hb (neC b o e hx) (I.base.keep b o e n hb hx) (I.base.free b o e n hx)
 ·obtain⟨sl,e1⟩:=I.base.slot b o e n hb hx;obtain⟨sl',e2⟩:=slot b _ (neL b o e) hb (neC b o e hx) e1 (I.base.free b o e n hx);exact⟨sl',e2⟩
 ·obtain⟨o',e1⟩:=I.base.there b o e hx;exact free b o' (neC b o e hx) e1 (I.base.free b o e n hx)
 ·obtain⟨o',e1⟩:=I.base.there b o e hx;exact there b o' (neC b o e hx) e1
 ·obtain⟨m1,e1⟩:=I.base.tbls b ps e;obtain⟨m2,e2⟩:=tbls b _ e1;exact⟨m1++m2,by rw[e2,Array.append_assoc]⟩
 ·obtain⟨m,hn,hl⟩:=I.loc;refine⟨m,ns m hn,λi x v e1 e2 e3=>?_⟩;obtain⟨u,r,l⟩:=hl i x v e1 e2 e3;refine⟨u,r,?_⟩;rcases l with l | ⟨k,c,e,z⟩
  ·exact .inl l
  ·exact .inr ⟨k,c,e,cellK x c e _ z⟩
 ·obtain⟨v,z⟩:=I.cell x c e;exact⟨v,cellK x c e v z⟩
 ·obtain⟨m,⟨o,_,_,ho,_⟩,_⟩:=I.loc;exact free _ o (λz=>(hch _ z).2.1 rfl) ho I.free
 ·obtain⟨v,o,ho,hd⟩:=I.cell x c e;exact free c o (λz=>(hch c z).2.2.1 x c e rfl) ho (I.freeC x c e)
 ·obtain⟨e,n,ne,nf,d⟩:=I.pin p hp;have nch:p.1 ∉ ch:=λz=>(hch p.1 z).2.2.2 p hp rfl
  exact⟨keep p.1 p.2 ne nf nch e n,free p.1 p.2 nch e n,ne,nf,d⟩
theorem Inv.un {t':Nat}(I:Inv X pins σ H s)(u:Un X.fs [] H H' s.heap h')(hok:HOk X.prog X.w H' h'):Inv X pins σ H' { s with heap:=h',toks:=t' }:=by
 obtain⟨m,⟨o,es,ep,ho,r⟩,_⟩:=id I.loc;obtain⟨sl,hL⟩:=u.any ho I.free (by simp);exact I.step (g':=s.gens) (d':=s.drawn) (ch:=[]) (λ_ z=>nomatch z) (λb o _ hb _ e n=>u.keep b o e n hb (by simp)) (λb o _ hb _ e n=>u.slot b o e n hb (by simp)) (λb o _ e n=>u.free b o e n (by simp)) (λb o _ e=>u.there b o e (by simp)) u.tups u.frzs u.tbls (λm' hm=>by
  obtain⟨o',es',ep',ho',r'⟩:=hm;rw[ho] at ho'; cases ho'
  exact⟨_,es',ep',hL,r'⟩) hok I.bare
theorem Inv.call {g':Array GenState}{t':Nat}{d':Drawn}{ch:List Addr}(I:Inv X pins σ H s)(u:Un (frs X.stack) ch H H' s.heap h')(hok:HOk X.prog X.w H' h')(hg:AllBare g')
  (hch:∀b∈ch,(b∈X.ex∨X.s₀.heap.objs.size≤b)∧b≠X.env.locals∧(∀x c,X.env.cells.lookup x=some c→c≠b)∧∀p∈X.pn++pins,p.1≠b):
  Inv X pins σ H' { s with heap:=h',gens:=g',drawn:=d',toks:=t' }:=by
 obtain⟨m,⟨o,es,ep,ho,r⟩,_⟩:=id I.loc;obtain⟨sl,hL⟩:=u.any ho I.free λz=>(hch _ z).2.1 rfl
 exact I.step (ch:=ch) hch (λb o hL hb hc e n=>u.keep b o e n (λz=>(Vah.mp (I.stkSub b z)).elim hL hb) hc) (λb o _ _ hc e n=>u.any e n hc) (λb o hc e n=>u.free b o e n hc) (λb o hc e=>u.there b o e hc) u.tups u.frzs u.tbls (λm' hm=>by
  obtain⟨o',es',ep',ho',r'⟩:=hm;rw[ho] at ho'; cases ho'
  exact⟨_,es',ep',hL,r'⟩) hok hg
theorem Inv.turned {t':Nat}{it:Addr}(I:Inv X pins σ H s)(k:∀b o,b≠it→s.heap.get? b=some o→h'.get? b=some o)(hn:H it=none)(hL:it≠X.env.locals)
  (h1:it∈X.ex∨X.s₀.heap.objs.size≤it)(h2:∀x c,X.env.cells.lookup x=some c→c≠it)(h3:∀p∈X.pn++pins,p.1≠it):Inv X pins σ H { s with heap:=h',toks:=t' }:=by
 have nit:∀b u,H b=some u→b≠it:=λb u e z=>by rw[z,hn] at e; cases e
 refine I.step (g':=s.gens) (d':=s.drawn) (ch:=[it]) (λb hb=>?_) (λb o _ _ hc e _=>k b o (λz=>hc (by simp[z])) e) (λb o _ _ hc e _=>⟨o.slots,k b o (λz=>hc (by simp[z])) e⟩) (λ_ _ _ _ n=>n)
  (λb o hc e=>⟨o,k b o (λz=>hc (by simp[z])) e⟩) (λ_ _ e=>e) (λ_ _ _ e=>e) (λb ps e=>⟨#[],by rw[e]; simp⟩) (λm hm=>?_) (λb u e=>?_) I.bare
 ·have e:b=it:=by simpa using hb
  subst e;exact⟨h1,hL,h2,h3⟩
 ·obtain⟨o,es,ep,ho,r⟩:=hm;exact⟨o,es,ep,k _ o (Ne.symm hL) ho,r⟩
 ·refine(I.hok b u e).stay (λc v hc q=>k c v ?_ q) (λ_ q=>q) λ_ _ q=>q
  rcases hc with z | z
  ·rw[z]; exact nit b u e
  ·exact nit c _ z
theorem Inv.tok (I:Inv X pins σ H s)(t:Nat):Inv X pins σ H { s with toks:=t }:=I.un (h':=s.heap) (t':=t) Un.refl I.hok
theorem Inv.kept {t':Nat}(I:Inv X pins σ H s)(k:∀b u,s.heap.get? b=some u→h'.get? b=some u):Inv X pins σ H { s with heap:=h',toks:=t' }:=I.un (Un.kept k) (I.hok.kept k)
theorem Inv.laid {a:Addr}{o:HO}{t':Nat}(I:Inv X pins σ H s)(k:∀b u,s.heap.get? b=some u→h'.get? b=some u)(hp:s.heap.objs.size≤a)(new:zaC X.prog X.w (upd H a o) h' a o):
  Inv X pins σ (upd H a o) { s with heap:=h',toks:=t' }:=I.un (Un.laid k hp (I.hok.fresh hp)) (I.hok.laid k hp new)
theorem Inv.write {x e:Addr}{o:HO}{t':Nat}(I:Inv X pins σ H s)(mu:Mut (H x))(he:e=x∨H e=some (.own x))(k:∀b u,b≠e→s.heap.get? b=some u→h'.get? b=some u)(heo:∃u,h'.get? e=some u)
  (new:zaC X.prog X.w (upd H x o) h' x o):Inv X pins σ (upd H x o) { s with heap:=h',toks:=t' }:=I.un (Un.write mu he k heo) (I.hok.write mu he k heo new)
theorem Inv.pins_of {pins':List (Addr×Obj)}(I:Inv X pins σ H s)(h:∀p∈pins',s.heap.get? p.1=some p.2∧H p.1=none∧p.1≠X.env.locals∧p.1 ∉ X.fs∧∀v,p.2.data≠.cell v):Inv X pins' σ H s:=
 ⟨I.ok,I.os,I.bare,I.base,I.loc,I.cell,I.free,I.freeC,λp hp=>(Va0.mp hp).elim (λz=>I.pin p (VaQ _ z)) (h p),I.hok,I.len⟩
theorem zeN {N:List Str}(hN:N.Nodup){i j:Nat}{x:Str}(a:N[i]?=some x)(b:N[j]?=some x):i=j:=by
 obtain⟨h1,e1⟩:=Vad.mp a;obtain⟨h2,e2⟩:=Vad.mp b;exact(List.getElem_inj hN).mp (e1.trans e2.symm)
theorem zfR {M:Model}{A:Around}{E:Value→Shared→Prop}{i:Nat}{x:Str}{v:V}{u:Value}{Q:Unit→Shared→Prop}(I:Inv X pins σ H s)(hN:X.N.Nodup)(hi:X.N[i]?=some x)(hx:Loc X.env.scope x)(r:zab v u)
  (h:∀s',Inv X pins (σ.set i (some v)) H s'→(∃a,Heap.SameBut a s.heap s'.heap∧(a=X.env.locals∨X.env.cells.lookup x=some a))→Q () s')(hf:X.fn x=true∨X.env.scope.names.lookup x=some .local:=by first | exact .inl rfl | exact .inr rfl | assumption):wpAny M A (storeName X.env x u) Q E s:=by
 obtain⟨m,hn,hl⟩:=id I.loc;have hcls:(X.env.scope.kind==.class||(X.env.scope.kind==.module&&X.env.locals != X.env.globals))=false:=by rw[I.ok.kind]; rfl
 have hiσ:i<σ.length:=by rw[I.len]; exact(Vad.mp hi).1
 have cne:=I.cne
 have tracked:∀ {a:Addr} {h':Heap},(∃o,s.heap.get? a=some o∧H a=none)→Heap.SameBut a s.heap h'→HOk X.prog X.w H h':=λ{a h'} ha hs b ob e=>by
  obtain⟨_,_,hfree⟩:=ha;refine(I.hok b ob e).stay (λc w' hc q=>(hs.2 c ?_).trans q) (λ_ q=>q) λ_ _ q=>q
  rintro rfl;rcases hc with rfl | hc
  ·rw[hfree] at e; cases e
  ·rw[hfree] at hc; cases hc
 rcases hx with hk | hk
 ·refine wpAny_storeName_local hk hn (λh' hn' hs=>?_) hcls;obtain⟨oL,_,_,hoL,_⟩:=id hn;refine h _ ⟨I.ok,I.os,I.bare,⟨λb o e n hb hx=>?_,λb o e n hb hx=>?_,I.base.free,λb o e hx=>?_,I.base.tups,I.base.frzs,I.base.tbls⟩,⟨_,hn',λj y v' e1 e2 e3=>?_⟩,λy c e=>?_,I.free,I.freeC,λp hp=>?_,tracked ⟨oL,hoL,I.free⟩ hs,by simpa using I.len⟩ ⟨_,hs,.inl rfl⟩
  ·exact(hs.2 b (Vab (Vaa (Heap.lt_size e) I.ok.above))).trans (I.base.keep b o e n hb hx)
  ·obtain⟨sl,e1⟩:=I.base.slot b o e n hb hx;exact⟨sl,(hs.2 b (Vab (Vaa (Heap.lt_size e) I.ok.above))).trans e1⟩
  ·obtain⟨o',e1⟩:=I.base.there b o e hx;exact⟨o',(hs.2 b (Vab (Vaa (Heap.lt_size e) I.ok.above))).trans e1⟩
  ·by_cases hj:j=i
   ·subst hj;rw[hi] at e1; cases e1
    rw[Vai hiσ] at e2;cases e2;exact⟨u,r,.inl ⟨hk,by simp⟩⟩
   ·rw[Van (Ne.symm hj)] at e2;obtain⟨u',r',q⟩:=hl j y v' e1 e2 e3;refine⟨u',r',?_⟩;rcases q with ⟨k,e⟩ | ⟨k,c,e,z⟩
    ·refine .inl ⟨k,?_⟩;have:y≠x:=λe=>hj (zeN hN e1 (e ▸ hi))
     simp[this,e]
    ·exact .inr ⟨k,c,e,z.sameBut hs (cne y c e)⟩
  ·obtain⟨w',z⟩:=I.cell y c e;exact⟨w',z.sameBut hs (cne y c e)⟩
  ·obtain⟨e,n,ne,nf,d⟩:=I.pin p hp;exact⟨(hs.2 p.1 ne).trans e,n,ne,nf,d⟩
 ·have hfn:X.fn x=true:=by
   rcases hf with z | z
   ·exact z
   ·rw[z] at hk; cases hk
  obtain⟨c,hc⟩:=I.ok.has x (.inl hk);obtain⟨w',z⟩:=I.cell x c hc;refine wpAny_storeName_cell I.ok.kind hk hc z (λh' hc' hs=>?_);obtain⟨oc,hoc,hocd⟩:=id z;refine h { s with heap:=h' } ⟨I.ok,I.os,I.bare,⟨λb o e n hb hx=>?_,λb o e n hb hx=>?_,I.base.free,λb o e hx=>?_,I.base.tups,I.base.frzs,I.base.tbls⟩,⟨m,hn.sameBut hs (Ne.symm (cne x c hc)),λj y v' e1 e2 e3=>?_⟩,λy c' e=>?_,I.free,I.freeC,λp hp=>?_,tracked ⟨oc,hoc,I.freeC x c hc⟩ hs,by simpa using I.len⟩ ⟨c,hs,.inr hc⟩
  ·exact(hs.2 b (Vab (Vaa (Heap.lt_size e) (I.ok.cab x c hfn hc)))).trans (I.base.keep b o e n hb hx)
  ·obtain⟨sl,e1⟩:=I.base.slot b o e n hb hx;exact⟨sl,(hs.2 b (Vab (Vaa (Heap.lt_size e) (I.ok.cab x c hfn hc)))).trans e1⟩
  ·obtain⟨o',e1⟩:=I.base.there b o e hx;exact⟨o',(hs.2 b (Vab (Vaa (Heap.lt_size e) (I.ok.cab x c hfn hc)))).trans e1⟩
  ·by_cases hj:j=i
   ·subst hj;rw[hi] at e1; cases e1
    rw[Vai hiσ] at e2;cases e2;exact⟨u,r,.inr ⟨.inl hk,c,hc,hc'⟩⟩
   ·rw[Van (Ne.symm hj)] at e2;obtain⟨u',r',q⟩:=hl j y v' e1 e2 e3;refine⟨u',r',?_⟩;rcases q with q | ⟨k,c',e,z'⟩
    ·exact .inl q
    ·refine .inr ⟨k,c',e,z'.sameBut hs ?_⟩;rintro rfl;exact hj (zeN hN e1 (I.ok.inj _ _ _ e hc ▸ hi))
  ·by_cases hcc:c'=c
   ·subst hcc; exact⟨_,hc'⟩
   ·obtain⟨w2,z2⟩:=I.cell y c' e;exact⟨w2,z2.sameBut hs hcc⟩
  ·obtain⟨e,n,ne,nf,d⟩:=I.pin p hp;refine⟨(hs.2 p.1 ?_).trans e,n,ne,nf,d⟩;intro q;rw[q,hoc] at e;have q':oc=p.2:=Option.some.inj e;exact d w' (by rw[← q']; exact hocd)
theorem zd5 {M:Model}{A:Around}{E:Value→Shared→Prop}{i:Nat}{x:Str}{v:V}{u:Value}{Q:Unit→Shared→Prop}(I:Inv X pins σ H s)(hN:X.N.Nodup)(hi:X.N[i]?=some x)(hx:Loc X.env.scope x)(r:zab v u)
  (h:∀s',Inv X pins (σ.set i (some v)) H s'→Q () s')(hf:X.fn x=true∨X.env.scope.names.lookup x=some .local:=by first | exact .inl rfl | exact .inr rfl | assumption):wpAny M A (storeName X.env x u) Q E s:=
 zfR I hN hi hx r (λs' I' _=>h s' I') hf
theorem Inv.call' {s':Shared}{ch:List Addr}(I:Inv X pins σ H s)(ho:s'.os=s.os)(u:Un (frs X.stack) ch H H' s.heap s'.heap)(hok:HOk X.prog X.w H' s'.heap)(hg:AllBare s'.gens)
  (hch:∀b∈ch,(b∈X.ex∨X.s₀.heap.objs.size≤b)∧b≠X.env.locals∧(∀x c,X.env.cells.lookup x=some c→c≠b)∧∀p∈X.pn++pins,p.1≠b):Inv X pins σ H' s':=by
 obtain⟨h',g',d',t',o'⟩:=s';have e:o'=s.os:=ho;subst e;exact I.call (g':=g') (t':=t') (d':=d') u hok hg hch
end
abbrev XK:=Value→Option Addr→Hp→Prop
abbrev St:=List (Option V)
abbrev VK:=V→Hp→Prop
abbrev TE:=St→Hp→VK→Prop
abbrev TT:=St→Hp→(Bool→Hp→Prop)→Prop
abbrev TA:=St→Hp→(List V→Hp→Prop)→Prop
structure zaU where
 nx:St→Hp→Prop
 rt:VK
 bk:St→Hp→Prop:=λ_ _=>False
 ct:St→Hp→Prop:=λ_ _=>False
abbrev TS:=zaU→St→Hp→Prop
def EP (X:Cx)(pins:List (Addr×Obj))(σ:St)(Q:VK)(u:Value)(s':Shared):Prop:=∃v H',Inv X pins σ H' s'∧zab v u∧Q v H'
def TP (X:Cx)(pins:List (Addr×Obj))(σ:St)(Q:Bool→Hp→Prop)(b:Bool)(s':Shared):Prop:=∃H',Inv X pins σ H' s'∧Q b H'
def AP (X:Cx)(pins:List (Addr×Obj))(σ:St)(Q:List V→Hp→Prop)(us:List Value)(s':Shared):Prop:=∃vs H',Inv X pins σ H' s'∧zac vs us∧Q vs H'
def SP (X:Cx)(pins:List (Addr×Obj))(D:zaU)(f:Flow)(s':Shared):Prop:=
 match f with
 | .next=>∃σ' H',Inv X pins σ' H' s'∧D.nx σ' H'
 | .brk=>∃σ' H',Inv X pins σ' H' s'∧D.bk σ' H'
 | .cont=>∃σ' H',Inv X pins σ' H' s'∧D.ct σ' H'
 | .ret u=>∃v σ' H',Inv X pins σ' H' s'∧zab v u∧D.rt v H'
def PE (X:Cx)(e:Expr)(t:TE):Prop:=
 ∀(pins:List (Addr×Obj)) (s:Shared) (σ:St) (H:Hp) (Q:VK),Inv X pins σ H s→t σ H Q→wpAny (model X.prog X.w) X.A (eval e X.env) (EP X pins σ Q) X.xe s
def PT (X:Cx)(e:Expr)(t:TT):Prop:=
 ∀(pins:List (Addr×Obj)) (s:Shared) (σ:St) (H:Hp) (Q:Bool→Hp→Prop),Inv X pins σ H s→t σ H Q→wpAny (model X.prog X.w) X.A (isTrue e X.env (eval e X.env)) (TP X pins σ Q) X.xe s
def PW (X:Cx)(e:Expr)(t:TT):Prop:=
 ∀(whole:Sem Value) (pins:List (Addr×Obj)) (s:Shared) (σ:St) (H:Hp) (Q:Bool→Hp→Prop),Inv X pins σ H s→t σ H Q→wpAny (model X.prog X.w) X.A (isTrue e X.env whole) (TP X pins σ Q) X.xe s
theorem PW.pt {X:Cx}{e:Expr}{t:TT}(h:PW X e t):PT X e t:=h _
def PA (X:Cx)(es:List Expr)(t:TA):Prop:=
 ∀(pos:Pos) (pins:List (Addr×Obj)) (s:Shared) (σ:St) (H:Hp) (Q:List V→Hp→Prop),Inv X pins σ H s→t σ H Q→wpAny (model X.prog X.w) X.A (spliced (backTo pos (starEach es X.env))) (AP X pins σ Q) X.xe s
def PS (X:Cx)(st:Stmt)(t:TS):Prop:=
 ∀(pins:List (Addr×Obj)) (s:Shared) (σ:St) (H:Hp) (D:zaU),Inv X pins σ H s→t D σ H→wpAny (model X.prog X.w) X.A (exec st X.env) (SP X pins D) X.xe s
def PSs (X:Cx)(st:List Stmt)(t:TS):Prop:=
 ∀(pins:List (Addr×Obj)) (s:Shared) (σ:St) (H:Hp) (D:zaU),Inv X pins σ H s→t D σ H→wpAny (model X.prog X.w) X.A (execs st X.env) (SP X pins D) X.xe s
theorem thn {α:Type}{t:Sem α}{Q Q':α→Shared→Prop}{M:Model}{A:Around}{E:Value→Shared→Prop}{s:Shared}(h:wpAny M A t Q E s)(hQ:∀a s,Q a s→Q' a s):wpAny M A t Q' E s:=wpAny_mono h hQ λ_ _ x=>x
end L2
namespace L2
open PySem PySem.Spec PyProof.Rows
section
variable {X:Cx}
def tVar (i:Nat):TE:=λσ H Q=>∃v,σ[i]?=some (some v)∧Q v H
def tC (v:V):TE:=λ_ H Q=>Q v H
theorem zc4 {i:Nat}{x:Str}{pos:Pos}(hN:X.N[i]?=some x)(hv:Vis X.env.scope x)(hd:(x==("__debug__":Str))=false:=by decide)(hcd:(x==("__classdict__":Str))=false:=by decide):PE X (.Name x pos) (tVar i):=by
 intro pins s σ H Q I h;obtain⟨v,e,h⟩:=h;obtain⟨m,hn,hl⟩:=I.loc;obtain⟨u,r,l⟩:=hl i x v hN e hv;have fin:EP X pins σ Q u s:=⟨v,H,I,r,h⟩;rcases l with ⟨hk,hm⟩ | ⟨hk,c,hc,hcell⟩
 ·exact wpAny_Name (wpAny_loadName_local I.ok.kind hk hn hm fin) hd
 ·rcases hk with hk | hk
  ·exact wpAny_Name (wpAny_loadName_cell I.ok.kind hk hc hcell fin) hd
  ·exact wpAny_Name (wpAny_loadName_free I.ok.kind hk hc hcell fin hcd) hd
theorem zij {i j pos}:PE X (.Constant (.int i) j pos) (tC (.int i)):=λ_ _ _ H _ I h=>wpAny_Constant_int ⟨.int i,H,I.tok _,⟨_,rfl⟩,h⟩
theorem pe_bl {b j pos}:PE X (.Constant (.bool b) j pos) (tC (.bl b)):=λ_ _ _ H _ I h=>Constant_bool ⟨.bl b,H,I,rfl,h⟩
theorem ziZ {j pos}:PE X (.Constant .none j pos) (tC .non):=λ_ _ _ H _ I h=>Constant_none ⟨.non,H,I,rfl,h⟩
theorem zhM {x j pos}:PE X (.Constant (.str x) j pos) (tC (.str x)):=λ_ _ _ H _ I h=>Calls.Constant_str ⟨.str x,H,I.tok _,⟨_,rfl⟩,h⟩
def Gl (X:Cx)(x:Str):Prop:=X.env.kindOf x=some .globalImplicit
theorem zbW {E:Value→Shared→Prop}{pins:List (Addr×Obj)}{s:Shared}{σ:St}{H:Hp}{x:Str}{u:Value}{pos:Pos}{Q:Value→Shared→Prop}(I:Inv X pins σ H s)(hg:Gl X x)(hm:X.mg x=some u)(h:Q u s)
  (hd:(x==("__debug__":Str))=false:=by decide):wpAny (model X.prog X.w) X.A (eval (.Name x pos) X.env) Q E s:=
 Calls.Name_function_global I.ok.kind hg (Calls.loadGlobal_global (by rw[I.ok.glob]; exact I.mod.glob.keeps I.bk) hm h) hd
theorem zcZ {E:Value→Shared→Prop}{pins:List (Addr×Obj)}{s:Shared}{σ:St}{H:Hp}{x:Str}{u:Value}{pos:Pos}{Q:Value→Shared→Prop}(I:Inv X pins σ H s)(hg:Gl X x)(hm:X.mg x=none)(hv:bootBuiltins x=some u)(h:Q u s)
  (hn:x≠"__name__":=by decide)(hd:(x==("__debug__":Str))=false:=by decide):wpAny (model X.prog X.w) X.A (eval (.Name x pos) X.env) Q E s:=by
 obtain⟨mb,h1,h2⟩:=I.mod.blt;exact Calls.Name_function_global I.ok.kind hg (Calls.loadGlobal_builtin (by rw[I.ok.glob]; exact I.mod.glob.keeps I.bk) hm (by rw[I.ok.blt]; exact h1.keeps I.bk) ((h2 x hn).trans hv) h) hd
theorem zha {x:Str}{v:V}{u:Value}{pos:Pos}(hg:Gl X x)(hm:X.mg x=some u)(r:zab v u)(hd:(x==("__debug__":Str))=false:=by decide):PE X (.Name x pos) (tC v):=
 λ_ _ _ H _ I h=>zbW I hg hm ⟨v,H,I,r,h⟩ hd
theorem zgb {x:Str}{v:V}{u:Value}{pos:Pos}(hg:Gl X x)(hm:X.mg x=none)(hv:bootBuiltins x=some u)(r:zab v u)(hn:x≠"__name__":=by decide)(hd:(x==("__debug__":Str))=false:=by decide):PE X (.Name x pos) (tC v):=
 λ_ _ _ H _ I h=>zcZ I hg hm hv ⟨v,H,I,r,h⟩ hn hd
variable {a b:Expr}{ta tb:TE}{pos:Pos}
def tB (t:TE):TT:=λσ H Q=>t σ H λx H1=>∃c,x=.bl c∧Q c H1
theorem zg9 {e:Expr}{t:TE}(h:PE X e t)(he:∀whole,isTrue e X.env whole=(do let v ← whole; standAt e.pos; holding [v] (truthy v)):=by intro _; rfl):PT X e (tB t):=by
 intro pins s σ H Q I hw;refine isTrue_plain (thn (h pins s σ H _ I hw) λv s1 ⟨x,H1,I1,r1,q1⟩=>?_) (he _);obtain⟨d,rfl,q⟩:=q1;cases r1;exact wpAny_truthy_bool ⟨H1,I1,q⟩
variable {tA tB':TT}{zaz:List Expr}
def tOr (t u:TT):TT:=λσ H Q=>t σ H λc H1=>if c=true then Q true H1 else u σ H1 Q
def tNot (t:TT):TT:=λσ H Q=>t σ H λc H1=>Q (!c) H1
theorem zjN (ha:PT X a tA):PW X (.BoolOp .Or [a] pos) tA:=by
 intro wh pins s σ H Q I h;refine isTrue_or (thn (ha pins s σ H Q I h) λc s1 e=>?_);cases c with
 | false=>exact isTrue_or_nil e
 | true=>exact e
theorem pw_or (ha:PT X a tA)(hb:PW X (.BoolOp .Or (b::zaz) pos) tB'):PW X (.BoolOp .Or (a::b::zaz) pos) (tOr tA tB'):=by
 intro wh pins s σ H Q I h;refine isTrue_or (thn (ha pins s σ H _ I h) λc s1 ⟨H1,I1,q1⟩=>?_);cases c with
 | true=>exact⟨H1,I1,q1⟩
 | false=>exact hb wh pins s1 σ H1 Q I1 q1
theorem zjm (ha:PT X a tA):PT X (.UnaryOp .Not a pos) (tNot tA):=by
 intro pins s σ H Q I h;exact isTrue_not (ha pins s σ H (λc H1=>Q (!c) H1) I h)
def tAndV (ta tb:TE):TE:=λσ H Q=>ta σ H λx H1=>∃c,x=.bl c∧if c=true then tb σ H1 Q else Q (.bl false) H1
def tNotV (ta:TE):TE:=λσ H Q=>ta σ H λx H1=>∃c,x=.bl c∧Q (.bl (!c)) H1
theorem zjd {op}{t:TE}(h:PE X a t):PE X (.BoolOp op [a] pos) t:=λpins s σ H Q I hw=>BoolOp_one (h pins s σ H Q I hw)
theorem ziM (ha:PE X a ta)(hb:PE X (.BoolOp .And (b::zaz) pos) tb):PE X (.BoolOp .And (a::b::zaz) pos) (tAndV ta tb):=by
 intro pins s σ H Q I h;refine BoolOp_and (thn (ha pins s σ H _ I h) λv s1 ⟨x,H1,I1,r1,q1⟩=>?_);obtain⟨c,rfl,q1⟩:=q1;cases r1;refine wpAny_truthy_bool ?_;cases c with
 | true=>exact hb pins s1 σ H1 Q I1 q1
 | false=>exact⟨.bl false,H1,I1,rfl,q1⟩
theorem zi9 (ha:PE X a ta):PE X (.UnaryOp .Not a pos) (tNotV ta):=by
 intro pins s σ H Q I h;refine UnaryOp_ (thn (ha pins s σ H _ I h) λv s1 ⟨x,H1,I1,r1,q1⟩=>?_);obtain⟨c,rfl,q1⟩:=q1;cases r1;exact not_of (wpAny_truthy_bool ⟨.bl (!c),H1,I1,rfl,q1⟩)
end
end L2
namespace L2
open PySem PySem.Spec PyProof.Rows
def SqL (K:PySem.W.Frag)(H:Hp)(a:Addr)(xs:List V):Prop:=
 Rd H a (.lst xs)∨
  ∃(o:Obj) (its:Array Value) (n:Nat),K.lookup a=some o∧o.cls=.type "list"∧o.dict=none∧o.data=.seq its n∧its.size≤sizeLine∧zac xs its.toList
def SqT (K:PySem.W.Frag)(H:Hp)(a:Addr)(xs:List V):Prop:=
 Rd H a (.tup xs)∨
  ∃(o:Obj) (its:Array Value) (n:Nat),K.lookup a=some o∧o.cls=.type "tuple"∧o.data=.seq its n∧its.size≤sizeLine∧zac xs its.toList
def absV:Value→Option V
 | .none=>some .non
 | .bool b=>some (.bl b)
 | .int i _=>some (.int i)
 | .str x _=>some (.str x)
 | .bytes b _=>some (.byt b)
 | .float b _=>some (.flt b)
 | .ref a=>some (.ref a)
 | .type n=>some (.ty n)
 | _=>none
theorem zab.abs {x:V}{u:Value}(r:zab x u):absV u=some x:=by
 cases x with
 | non=>cases r; rfl
 | bl _=>cases r; rfl
 | int _=>obtain⟨t,rfl⟩:=r; rfl
 | str _=>obtain⟨t,rfl⟩:=r; rfl
 | byt _=>obtain⟨t,rfl⟩:=r; rfl
 | flt _=>obtain⟨t,rfl⟩:=r; rfl
 | ref _=>cases r; rfl
 | ty _=>cases r; rfl
theorem zab.inj {x y:V}{u:Value}(r:zab x u)(q:zab y u):x=y:=Option.some.inj (r.abs.symm.trans q.abs)
theorem zac.inj:∀ {xs ys:List V} {us:List Value},zac xs us→zac ys us→xs=ys
 | _,_,_,.nil,.nil=>rfl
 | _,_,_,.cons r t,.cons r' t'=>by rw[r.inj r',zac.inj t t']
section
variable {X:Cx}{pins:List (Addr×Obj)}{σ:St}{H:Hp}{s:Shared}{a:Addr}{xs ys:List V}
theorem SqL.of {K:PySem.W.Frag}(h:H a=some (.lst xs)):SqL K H a xs:=.inl (.inl h)
theorem SqT.of {K:PySem.W.Frag}(h:H a=some (.tup xs)):SqT K H a xs:=.inl (.inl h)
theorem Inv.list (I:Inv X pins σ H s)(h:SqL X.K H a xs):∃its:List Value,zac xs its∧PlainL s.heap a its.toArray∧xs.length≤sizeLine:=by
 rcases h with h | ⟨o,its,n,hk,hc,hd,hs,hz,r⟩
 ·obtain⟨z,its,n,r,e⟩:=h.ok I.hok;exact⟨its,r,⟨_,n,e,rfl,rfl,rfl⟩,z⟩
 ·refine⟨its.toList,r,⟨o,n,I.kIn a o hk,hc,hd,by simpa using hs⟩,?_⟩;have e:=r.length;simp only[Array.length_toList] at e;omega
theorem Inv.tuple (I:Inv X pins σ H s)(h:SqT X.K H a xs):∃its:List Value,zac xs its∧IsTup s.heap a its.toArray∧xs.length≤sizeLine:=by
 rcases h with h | ⟨o,its,n,hk,hc,hs,hz,r⟩
 ·obtain⟨z,its,r,p⟩:=h.ok I.hok;exact⟨its,r,p,z⟩
 ·refine⟨its.toList,r,⟨o,I.kIn a o hk,hc,n,by simpa using hs⟩,?_⟩;have e:=r.length;simp only[Array.length_toList] at e;omega
end
abbrev Cx.wish (X:Cx)(E:Value→Shared→Prop):Cx:={ X with xe:=E }
abbrev Cx.nox (X:Cx):Cx:=X.wish λ_ _=>False
theorem Cx.Ok.wish {X:Cx}(ok:X.Ok)(E:Value→Shared→Prop):(X.wish E).Ok:=
 ⟨ok.mod,ok.kind,ok.glob,ok.blt,ok.above,ok.inj,ok.has,ok.cab,ok.hd,ok.frames,ok.stk,ok.exf,ok.bs,ok.bsz,ok.noex,ok.exfs,ok.funs,ok.frf⟩
theorem Cx.Ok.unwish {X:Cx}{E:Value→Shared→Prop}(ok:(X.wish E).Ok):X.Ok:=
 ⟨ok.mod,ok.kind,ok.glob,ok.blt,ok.above,ok.inj,ok.has,ok.cab,ok.hd,ok.frames,ok.stk,ok.exf,ok.bs,ok.bsz,ok.noex,ok.exfs,ok.funs,ok.frf⟩
section
variable {X:Cx}{pins:List (Addr×Obj)}{σ:St}{H:Hp}{s:Shared}{E:Value→Shared→Prop}
theorem Inv.wish (I:Inv X pins σ H s)(E:Value→Shared→Prop):Inv (X.wish E) pins σ H s:=⟨I.ok.wish E,I.os,I.bare,I.base,I.loc,I.cell,I.free,I.freeC,I.pin,I.hok,I.len⟩
theorem Inv.unwish (I:Inv (X.wish E) pins σ H s):Inv X pins σ H s:=⟨I.ok.unwish,I.os,I.bare,I.base,I.loc,I.cell,I.free,I.freeC,I.pin,I.hok,I.len⟩
theorem SP.unwish {D:zaU}{f:Flow}{s':Shared}(h:SP (X.wish E) pins D f s'):SP X pins D f s':=by
 cases f with
 | next=>obtain⟨σ',H',I,q⟩:=h; exact⟨σ',H',I.unwish,q⟩
 | brk=>obtain⟨σ',H',I,q⟩:=h; exact⟨σ',H',I.unwish,q⟩
 | cont=>obtain⟨σ',H',I,q⟩:=h; exact⟨σ',H',I.unwish,q⟩
 | ret u=>obtain⟨v,σ',H',I,r,q⟩:=h; exact⟨v,σ',H',I.unwish,r,q⟩
theorem PE.nox {e:Expr}{t:TE}(h:PE X.nox e t):PE X e t:=λpins s σ H Q I hw=>
 wpAny_mono (h pins s σ H Q (I.wish _) hw) (λ_ _ ⟨v,H',I',r,q⟩=>⟨v,H',I'.unwish,r,q⟩) λ_ _ z=>False.elim z
theorem PT.nox {e:Expr}{t:TT}(h:PT X.nox e t):PT X e t:=λpins s σ H Q I hw=>
 wpAny_mono (h pins s σ H Q (I.wish _) hw) (λ_ _ ⟨H',I',q⟩=>⟨H',I'.unwish,q⟩) λ_ _ z=>False.elim z
theorem PSs.nox {st:List Stmt}{t:TS}(h:PSs X.nox st t):PSs X st t:=λpins s σ H D I hw=>
 wpAny_mono (h pins s σ H D (I.wish _) hw) (λ_ _ q=>q.unwish) λ_ _ z=>False.elim z
end
section
variable {X:Cx}{st:Stmt}{zaz:List Stmt}{t u:TS}{e:Expr}{te:TE}{pos:Pos}
def tNext:TS:=λD σ H=>D.nx σ H
def tSeq (t u:TS):TS:=λD σ H=>t { D with nx:=u D } σ H
theorem zjF:PSs X [] tNext:=λ_ _ σ H _ I h=>wpAny_execs_nil ⟨σ,H,I,h⟩
theorem zh5 (h1:PS X st t)(h2:PSs X zaz u):PSs X (st::zaz) (tSeq t u):=by
 intro pins s σ H D I h;refine wpAny_execs_cons (thn (h1 pins s σ H { D with nx:=u D } I h) λf s1 q=>?_);cases f with
 | next=>
  obtain⟨σ',H',I',q⟩:=q;exact h2 pins s1 σ' H' D I' q
 | ret v=>exact q
 | brk=>exact q
 | cont=>exact q
theorem zfv (h1:PS X st t):PSs X [st] t:=by
 intro pins s σ H D I h;refine wpAny_execs_cons (thn (h1 pins s σ H D I h) λf s1 q=>?_);cases f with
 | next=>exact wpAny_execs_nil q
 | ret v=>exact q
 | brk=>exact q
 | cont=>exact q
theorem Inv.quiet {pins:List (Addr×Obj)}{σ:St}{H:Hp}{s:Shared}(I:Inv X pins σ H s):interactive X.env=false:=by simp[interactive,I.ok.kind]
def tDrop (te:TE):TS:=λD σ H=>te σ H λ_ H1=>D.nx σ H1
theorem zjt (he:PE X e te)(hs:swapsWith e none pos.line X.env=pure false:=by rfl):PS X (.Expr e pos) (tDrop te):=by
 intro pins s σ H D I h;exact wpAny_Expr_any (thn (he pins s σ H _ I h) λv s1 ⟨x,H1,I1,r1,q1⟩=>⟨σ,H1,I1,q1⟩) I.quiet hs
def tRet (te:TE):TS:=λD σ H=>te σ H D.rt
theorem zkh (he:PE X e te):PS X (.Return (some e) pos) (tRet te):=by
 intro pins s σ H D I h;exact wpAny_Return_some (thn (he pins s σ H _ I h) λv s1 ⟨x,H1,I1,r1,q1⟩=>⟨x,σ,H1,I1,r1,q1⟩)
def tIfS (c:TT)(t u:TS):TS:=λD σ H=>c σ H λb H1=>if b=true then t D σ H1 else u D σ H1
theorem ps_if {c:Expr}{a b:List Stmt}{tc:TT}(hc:PT X c tc)(ha:PSs X a t)(hb:PSs X b u):PS X (.If c a b pos) (tIfS tc t u):=by
 intro pins s σ H D I h;refine wpAny_If (thn (hc pins s σ H _ I h) λd s1 ⟨H1,I1,q1⟩=>?_);cases d with
 | true=>exact ha pins s1 σ H1 D I1 q1
 | false=>exact hb pins s1 σ H1 D I1 q1
end
abbrev TG:=V→St→Hp→(St→Hp→Prop)→Prop
def PG (X:Cx)(target:Expr)(t:TG):Prop:=
 ∀(pins:List (Addr×Obj)) (s:Shared) (σ:St) (H:Hp) (v:V) (u:Value) (Q:St→Hp→Prop),Inv X pins σ H s→zab v u→t v σ H Q→
  wpAny (model X.prog X.w) X.A (assign target X.env u) (λ_ s'=>∃σ' H',Inv X pins σ' H' s'∧Q σ' H') X.xe s
section
variable {X:Cx}{pos:Pos}
def zgD (i:Nat):TG:=λv σ H Q=>Q (σ.set i (some v)) H
theorem zgA {i:Nat}{x:Str}(hN:X.N.Nodup)(hi:X.N[i]?=some x)(hx:Loc X.env.scope x)(hf:X.fn x=true∨X.env.scope.names.lookup x=some .local:=by first | exact .inl rfl | exact .inr rfl | assumption):PG X (.Name x pos) (zgD i):=by
 intro pins s σ H v u Q I r h;exact wpAny_assign_Name (zd5 I hN hi hx r (λs' I'=>⟨_,H,I',h⟩) hf)
def tAsg (te:TE)(g:TG):TS:=λD σ H=>te σ H λx H1=>g x σ H1 D.nx
theorem zj6 {i:Nat}{x:Str}{e:Expr}{te:TE}{pos':Pos}(hN:X.N.Nodup)(hi:X.N[i]?=some x)(hx:Loc X.env.scope x)(he:PE X e te)(hs:swapsWith e (some (.Name x pos')) pos.line X.env=pure false:=by rfl)(hf:X.fn x=true∨X.env.scope.names.lookup x=some .local:=by first | exact .inl rfl | exact .inr rfl | assumption):
  PS X (.Assign [.Name x pos'] e pos) (tAsg te (zgD i)):=by
 intro pins s σ H D I h;refine wpAny_Assign_Name (thn (he pins s σ H _ I h) λv s1 ⟨y,H1,I1,r1,q1⟩=>?_) hs;exact zd5 I1 hN hi hx r1 (λs2 I2=>⟨_,H1,I2,q1⟩) hf
end
section
variable {X:Cx}{pos:Pos}
def zh7 (c:TT)(tb:TS):TS:=λD σ H=>∃W:Nat→St→Hp→Prop,(∃m,W m σ H)∧∀m σ H,W m σ H→
 c σ H λb H1=>if b=true then ∃N:St→Hp→Prop,(∀σ' H',N σ' H'→∃m',m'<m∧W m' σ' H')∧tb { D with nx:=N,ct:=N,bk:=D.nx } σ H1 else D.nx σ H1
theorem zjo {c:Expr}{body:List Stmt}{tc:TT}{tb:TS}(hp:PassesOwn (model X.prog X.w) X.A X.env X.xe)(hc:PT X c tc)(hb:PSs X body tb):PS X (.While c body [] pos) (zh7 tc tb):=by
 intro pins s σ H D I h;obtain⟨W,⟨m0,w0⟩,turn⟩:=h;refine wpAny_While (codeAny_whileLoop (λn s'=>∃σ' H',Inv X pins σ' H' s'∧W n σ' H') ?_ m0 ⟨σ,H,I,w0⟩);rintro n s1 ⟨σ1,H1,I1,w1⟩;refine wpAny_passesOwn hp (thn (hc pins s1 σ1 H1 _ I1 (turn n σ1 H1 w1)) λb s2 ⟨H2,I2,q2⟩=>?_);cases b with
 | true=>
  obtain⟨N,hN,q2⟩:=q2;rw[if_pos rfl];refine wpAny_passesOwn hp (thn (hb pins s2 σ1 H2 _ I2 q2) λf s3 q3=>?_);cases f with
  | next=>
   obtain⟨σ3,H3,I3,n3⟩:=q3;obtain⟨m',hm,w3⟩:=hN σ3 H3 n3;exact⟨m',hm,σ3,H3,I3,w3⟩
  | cont=>
   obtain⟨σ3,H3,I3,n3⟩:=q3;obtain⟨m',hm,w3⟩:=hN σ3 H3 n3;exact⟨m',hm,σ3,H3,I3,w3⟩
  | brk=>exact q3
  | ret v=>exact q3
 | false=>
  rw[if_neg Vae];exact wpAny_execs_nil ⟨σ1,H2,I2,q2⟩
end
structure It where
 go:Nat→Hp→Prop
 yld:Nat→Hp→V→Hp→Prop
 stop:Nat→Hp→Prop
def zaS (X:Cx)(pins:List (Addr×Obj))(H:Hp)(b:Addr):Prop:=
 H b=none∧b≠X.env.locals∧b ∉ X.fs∧(b∈X.ex∨X.s₀.heap.objs.size≤b)∧(∀x c,X.env.cells.lookup x=some c→c≠b)∧∀p∈X.pn++pins,p.1≠b
theorem Inv.fpOk {X:Cx}{pins:List (Addr×Obj)}{σ:St}{H H':Hp}{s:Shared}{b:Addr}(I:Inv X pins σ H s)(hb:s.heap.objs.size≤b)(hn:H' b=none):zaS X pins H' b:=by
 refine⟨hn,VaR (Vaa I.lt hb),I.nofs hb,.inr (Vam I.sz hb),λx c e z=>?_,λp hp z=>?_⟩
 ·obtain⟨v,q⟩:=I.cell x c e;exact absurd (Vaa q.lt (by rw[z]; exact hb)) (Val _)
 ·exact absurd (Vaa (Heap.lt_size (I.pin p hp).1) (by rw[z]; exact hb)) (Val _)
structure Turn (P:Program)(w:World)(K:PySem.W.Frag)(tg:Expr)(J:It)(fp:List Addr)(it:Addr)(tn:Nat→Heap→Prop):Prop where
 mem:it∈fp
 obj:∀i h,tn i h→∀b∈fp,∃o,h.get? b=some o∧∀v,o.data≠.cell v
 keep:∀i h h',tn i h→(∀b∈fp,∀o,h.get? b=some o→h'.get? b=some o)→tn i h'
 item:∀(X:Cx),X.prog=P→X.w=w→X.K=K→X.calm=true→∀(i:Nat) (pins:List (Addr×Obj)) (s:Shared) (σ:St) (H:Hp) (E:Value→Shared→Prop),Inv X pins σ H s→(∀b∈fp,zaS X pins H b)→tn i s.heap→J.go i H→
  wpAny (model P w) X.A (pyNext (.ref it)) (λr s1=>∃u,r=some u∧
   wpAny (model P w) X.A (letOwnedTupleGo tg (.ref it) u) (λ_ s2=>∃x H',Inv X pins σ H' s2∧zab x u∧J.yld i H x H'∧tn (i+1) s2.heap∧∀b∈fp,H' b=none) E s1) E s
 done:∀(X:Cx),X.prog=P→X.w=w→X.K=K→X.calm=true→∀(i:Nat) (pins:List (Addr×Obj)) (s:Shared) (σ:St) (H:Hp) (E:Value→Shared→Prop),Inv X pins σ H s→(∀b∈fp,zaS X pins H b)→tn i s.heap→J.stop i H→
  wpAny (model P w) X.A (pyNext (.ref it)) (λr s1=>r=none∧Inv X pins σ H s1) E s
 self:∀(A:Around) (i:Nat) (s:Shared) (Q:Value→Shared→Prop) (E:Value→Shared→Prop),tn i s.heap→Q (.ref it) s→wpAny (model P w) A (pyIter (.ref it)) Q E s
abbrev TI:=St→Hp→(It→Hp→Prop)→Prop
def PIE (X:Cx)(pins:List (Addr×Obj))(σ:St)(tg:Expr)(R:It→Hp→Prop)(itv:Value)(s2:Shared):Prop:=
 ∃(it:Addr) (fp:List Addr) (tn:Nat→Heap→Prop) (J:It) (H':Hp),itv=.ref it∧Inv X pins σ H' s2∧Turn X.prog X.w X.K tg J fp it tn∧tn 0 s2.heap∧(∀b∈fp,zaS X pins H' b)∧R J H'
def PI (X:Cx)(tg iter:Expr)(wi:TI):Prop:=
 ∀(pins:List (Addr×Obj)) (s:Shared) (σ:St) (H:Hp) (R:It→Hp→Prop),Inv X pins σ H s→wi σ H R→
  wpAny (model X.prog X.w) X.A (eval iter X.env) (λv s1=>wpAny (model X.prog X.w) X.A (pyIter v) (PIE X pins σ tg R) X.xe s1) X.xe s
theorem zfO {M:Model}{A:Around}{E:Value→Shared→Prop}{s:Shared}{tg:Expr}{it:Addr}{u:Value}{o:Obj}{n:String}{vs:Array Value}{Q:Unit→Shared→Prop}(ho:s.heap.get? it=some o)(hc:o.cls=.type n)(hd:o.data=.fields vs)
    (hn:["enumerate","zip","dict_itemiterator","dict_reverseitemiterator","odict_iterator","itertools.zip_longest","itertools.pairwise"].contains n=false)(hQ:Q () s):wpAny M A (letOwnedTupleGo tg (.ref it) u) Q E s:=by
  unfold letOwnedTupleGo;cases tg <;> first
    | exact wpAny_pure hQ
    | (cases u <;> first
        | exact wpAny_pure hQ
        | (refine wpAny_bind (wpAny_load ho ?_)
           rw[hc,hd];show wpAny M A (if (["enumerate","zip","dict_itemiterator","dict_reverseitemiterator","odict_iterator","itertools.zip_longest","itertools.pairwise"].contains n&&vs[0]?==some (rawInt _))=true then _ else _) Q E s;rw[if_neg (by intro h; rw[hn,Bool.false_and] at h; cases h)];exact wpAny_pure hQ))
def Itr (lo:Int)(n:Nat):It:=⟨λi _=>i<n,λi H x H'=>H'=H∧x=.int (lo+i),λi _=>n≤i⟩
theorem zh8 {P:Program}{w:World}{K:PySem.W.Frag}{tg:Expr}(it:Addr)(lo:Int)(n:Nat):Turn P w K tg (Itr lo n) [it] it (λi h=>IsRangeIter h it (lo+(i:Nat)*1) ((n:Int)-(i:Nat)) 1) where
 mem:=by simp
 obj:=λi h st b hb=>by
  have e:b=it:=by simpa using hb
  subst e;exact⟨_,st,λv z=>by
   have z':Data.fields _=Data.cell v:=z;cases z'⟩
 keep:=λi h h' st k=>k it (by simp) _ st
 item:=by
  intro X hP hw hK hc i pins s σ H E I hf st hg;subst hP hw hK;obtain⟨f0,f1,f2,f3,f4,f5⟩:=hf it (by simp);have W:=Walks.range (prog:=X.prog) (w:=X.w) (I.ok.hd hc) it lo 1 n;refine W.item i s _ _ hg st λv h' tk hv st' kk=>?_
  obtain⟨t,rfl⟩:=hv;have I1:Inv X pins σ H { s with heap:=h',toks:=tk }:=I.turned (λb o hb e=>kk b o (by simpa using hb) e) f0 f1 f3 f4 f5;refine⟨_,rfl,zfO (s:={ s with heap:=h',toks:=tk }) (n:="range_iterator") st' rfl rfl (by decide) ⟨.int (lo+i),H,I1,⟨t,?_⟩,⟨rfl,rfl⟩,st',λb hb=>(hf b hb).1⟩⟩;rw[Int.mul_one]
 done:=by
  intro X hP hw hK hc i pins s σ H E I hf st hg;subst hP hw hK;obtain⟨f0,f1,f2,f3,f4,f5⟩:=hf it (by simp);exact wpAny_pyNext_range_end (I.ok.hd hc) st (by have:n≤i:=hg; omega) λh' eb=>⟨rfl,I.turned (t':=s.toks) (λb o hb e=>eb b o hb e) f0 f1 f3 f4 f5⟩
 self:=λ_ _ _ _ _ st h=>wpAny_pyIter_rangeiter st h
end L2
namespace L2
open PySem PySem.Spec PyProof.Rows
section
variable {X:Cx}{tg:Expr}
theorem zjj {pins:List (Addr×Obj)}{σ:St}{H:Hp}{s:Shared}{R:It→Hp→Prop}{E:Value→Shared→Prop}{lo hi:Int}{t u v:Tok}{tk:Nat}(I:Inv X pins σ H s)(h1:-(2^62)≤lo)(h2:lo<2^62)(h3:-(2^62)≤hi)(h4:hi<2^62)
  (q:R (Itr lo (hi-lo).toNat) H):wpAny (model X.prog X.w) X.A (pyIter (.ref s.heap.objs.size)) (PIE X pins σ tg R) E { s with heap:=s.heap.push { cls:=.type "range",data:=.fields #[.int lo t,.int hi u,.int 1 v] },toks:=tk }:=by
 refine wpAny_pyIter_range (IsRange.new ..) (small_one h1 h2 h3 h4) ?_;have I1:Inv X pins σ H { s with heap:=s.heap.push { cls:=.type "range",data:=.fields #[.int lo t,.int hi u,.int 1 v] },toks:=tk }:=I.kept λb o e=>Heap.get?_push_of_some _ e
 refine⟨(s.heap.push { cls:=.type "range",data:=.fields #[.int lo t,.int hi u,.int 1 v] }).objs.size,[(s.heap.push { cls:=.type "range",data:=.fields #[.int lo t,.int hi u,.int 1 v] }).objs.size],_,_,H,rfl,
  I1.kept (t':=tk) λb o e=>Heap.get?_push_of_some _ e,zh8 _ lo (hi-lo).toNat,?_,λb hb=>?_,q⟩
 ·have e1:lo+((0:Nat):Int)*1=lo:=by simp
  have e2:(((hi-lo).toNat:Nat):Int)-((0:Nat):Int)=Builtin.Range.rangeSize lo hi 1:=by rw[rangeSize_one]; split <;> omega
  show IsRangeIter _ _ (lo+((0:Nat):Int)*1) ((((hi-lo).toNat:Nat):Int)-((0:Nat):Int)) 1;rw[e1,e2];exact Heap.get?_push_size _ rfl
 ·have e:b=(s.heap.push { cls:=.type "range",data:=.fields #[.int lo t,.int hi u,.int 1 v] }).objs.size:=by simpa using hb
  subst e;exact I1.fpOk (Vac _) (I1.hok.fresh (Vac _))
def zgv (ta:TA):TI:=λσ H R=>ta σ H λvs H1=>∃j:Int,vs=[.int j]∧-(2^62)≤j∧j<2^62∧R (Itr 0 j.toNat) H1
theorem ziv {a:Expr}{ta:TA}{p pos:Pos}(hg:Gl X "range")(hm:X.mg "range"=none)(ha:PA X [a] ta)(hs:starEach [a] X.env=[(false,eval a X.env)]:=by rfl):PI X tg (.Call (.Name "range" p) [a] [] pos) (zgv ta):=by
 intro pins s σ H R I h;refine Call_ (zcZ I hg hm boot_range (PyProof.Rows.callWith_type1 (thn (ha pos pins s σ H _ I h) λus s1 ⟨vs,H1,I1,r1,q1⟩=>?_) hs rfl));obtain⟨j,e,q1,q2,q⟩:=q1;subst e;cases r1 with
 | cons r rr=>
  cases rr;obtain⟨t,rfl⟩:=r;exact call_range_1 (zjj I1 (by omega) (by omega) q1 q2 (by simpa using q))
def zcn (fp:List Addr)(h:Heap):List (Addr×Obj):=fp.filterMap λb=>(h.get? b).map λo=>(b,o)
theorem zde {fp:List Addr}{h:Heap}{b:Addr}{o:Obj}(hb:b∈fp)(e:h.get? b=some o):(b,o)∈zcn fp h:=VaS.mpr ⟨b,hb,by rw[e]; rfl⟩
theorem zj1 {fp:List Addr}{h:Heap}{p:Addr×Obj}(hp:p∈zcn fp h):p.1∈fp∧h.get? p.1=some p.2:=by
 obtain⟨b,hb,e⟩:=VaS.mp hp;cases q:h.get? b with
 | none=>rw[q] at e; cases e
 | some o=>
  rw[q] at e;have e':(b,o)=p:=Option.some.inj e;subst e';exact⟨hb,q⟩
theorem Inv.pinned {pins:List (Addr×Obj)}{σ:St}{H:Hp}{s:Shared}{fp:List Addr}(I:Inv X pins σ H s)(hf:∀b∈fp,zaS X pins H b)(ho:∀b∈fp,∃o,s.heap.get? b=some o∧∀v,o.data≠.cell v):Inv X (pins++zcn fp s.heap) σ H s:=
 I.pins_of λp hp=>(Va0.mp hp).elim (λz=>I.pin p (Vao _ z)) λz=>by
  obtain⟨hb,e⟩:=zj1 z;obtain⟨f0,f1,f2,_⟩:=hf p.1 hb;obtain⟨o,e',d⟩:=ho p.1 hb;rw[e] at e'; cases e'
  exact⟨e,f0,f1,f2,d⟩
theorem Inv.unpinned {pins pl:List (Addr×Obj)}{σ:St}{H:Hp}{s:Shared}(I:Inv X (pins++pl) σ H s):Inv X pins σ H s:=I.pins_of λp hp=>I.pin p (Vao _ (VaQ _ hp))
end
end L2
namespace L2
open PySem PySem.Spec PyProof.Rows
abbrev R2:=V→V→Hp→VK→Prop
def OpR (X:Cx)(f:Value→Value→Sem Value)(r:R2):Prop:=
 ∀(pins:List (Addr×Obj)) (s:Shared) (σ:St) (H:Hp) (x y:V) (v u:Value) (Q:VK),Inv X pins σ H s→zab x v→zab y u→r x y H Q→
  wpAny (model X.prog X.w) X.A (f v u) (EP X pins σ Q) X.xe s
def UnR (X:Cx)(f:Value→Sem Value)(r:V→Hp→VK→Prop):Prop:=
 ∀(pins:List (Addr×Obj)) (s:Shared) (σ:St) (H:Hp) (x:V) (v:Value) (Q:VK),Inv X pins σ H s→zab x v→r x H Q→
  wpAny (model X.prog X.w) X.A (f v) (EP X pins σ Q) X.xe s
def zaQ (X:Cx)(f:Value)(r:List V→Hp→VK→Prop):Prop:=
 ∀(pins:List (Addr×Obj)) (s:Shared) (σ:St) (H:Hp) (xs:List V) (us:List Value) (Q:VK),Inv X pins σ H s→zac xs us→r xs H Q→
  wpAny (model X.prog X.w) X.A (call f us) (EP X pins σ Q) X.xe s
def tOp (r:R2)(ta tb:TE):TE:=λσ H Q=>ta σ H λx H1=>tb σ H1 λy H2=>r x y H2 Q
def tUn (r:V→Hp→VK→Prop)(ta:TE):TE:=λσ H Q=>ta σ H λx H1=>r x H1 Q
def rI (C:Int→Int→Prop)(g:Int→Int→V):R2:=λx y H Q=>∃i j,x=.int i∧y=.int j∧C i j∧Q (g i j) H
def rI0 (g:Int→Int→V):R2:=λx y H Q=>∃i j,x=.int i∧y=.int j∧Q (g i j) H
def rU (g:Int→V):V→Hp→VK→Prop:=λx H Q=>∃i,x=.int i∧Q (g i) H
section
variable {X:Cx}{a b c:Expr}{ta tb tc:TE}{pos:Pos}
theorem zdJ (ha:PE X a ta)(hb:PE X b tb){pins:List (Addr×Obj)}{s:Shared}{σ:St}{H:Hp}{R:V→V→Hp→Prop}(I:Inv X pins σ H s)
  (h:ta σ H λx H1=>tb σ H1 λy H2=>R x y H2){Q:Value→Shared→Prop}{f:Value→Value→Sem Value}
  (hf:∀v u s2 x y H2,Inv X pins σ H2 s2→zab x v→zab y u→R x y H2→wpAny (model X.prog X.w) X.A (f v u) Q X.xe s2):
  wpAny (model X.prog X.w) X.A (eval a X.env) (λv s₁=>wpAny (model X.prog X.w) X.A (eval b X.env) (λu s₂=>wpAny (model X.prog X.w) X.A (f v u) Q X.xe s₂) X.xe s₁) X.xe s:=by
 refine thn (ha pins s σ H _ I h) λv s1 ⟨x,H1,I1,r1,q1⟩=>?_
 refine thn (hb pins s1 σ H1 _ I1 q1) λu s2 ⟨y,H2,I2,r2,q2⟩=>?_
 exact hf v u s2 x y H2 I2 r1 r2 q2
theorem pe_op {op:Operator}{r:R2}(ho:OpR X (binaryOp op) r)(ha:PE X a ta)(hb:PE X b tb):PE X (.BinOp a op b pos) (tOp r ta tb):=by
 intro pins s σ H Q I h;exact wpAny_BinOp (zdJ ha hb I h λv u s2 x y H2 I2 rx ry q=>ho pins s2 σ H2 x y v u Q I2 rx ry q)
theorem pe_un {op:UnaryOp}{r:V→Hp→VK→Prop}(ho:UnR X (unaryOp op) r)(ha:PE X a ta):PE X (.UnaryOp op a pos) (tUn r ta):=by
 intro pins s σ H Q I h;exact UnaryOp_ (thn (ha pins s σ H _ I h) λv s1 ⟨x,H1,I1,r1,q1⟩=>ho pins s1 σ H1 x v Q I1 r1 q1)
theorem opI {f:Value→Value→Sem Value}{C:Int→Int→Prop}{g:Int→Int→Int}
  (rule:∀(i j:Int) (t u:Tok) (s:Shared) (Q:Value→Shared→Prop) (E:Value→Shared→Prop),C i j→Q (.int (g i j) s.toks) { s with toks:=s.toks+1 }→wpAny (model X.prog X.w) X.A (f (.int i t) (.int j u)) Q E s):
  OpR X f (rI C λi j=>.int (g i j)):=by
 intro pins s σ H x y v u Q I rx ry h;obtain⟨i,j,rfl,rfl,hc,q⟩:=h;obtain⟨t,rfl⟩:=rx;obtain⟨t',rfl⟩:=ry;exact rule i j t t' s _ _ hc ⟨.int (g i j),H,I.tok _,⟨_,rfl⟩,q⟩
theorem opI0 {f:Value→Value→Sem Value}{g:Int→Int→Int}
  (rule:∀(i j:Int) (t u:Tok) (s:Shared) (Q:Value→Shared→Prop) (E:Value→Shared→Prop),Q (.int (g i j) s.toks) { s with toks:=s.toks+1 }→wpAny (model X.prog X.w) X.A (f (.int i t) (.int j u)) Q E s):
  OpR X f (rI0 λi j=>.int (g i j)):=by
 intro pins s σ H x y v u Q I rx ry h;obtain⟨i,j,rfl,rfl,q⟩:=h;obtain⟨t,rfl⟩:=rx;obtain⟨t',rfl⟩:=ry;exact rule i j t t' s _ _ ⟨.int (g i j),H,I.tok _,⟨_,rfl⟩,q⟩
theorem opB0 {f:Value→Value→Sem Value}{g:Int→Int→Bool}
  (rule:∀(i j:Int) (t u:Tok) (s:Shared) (Q:Value→Shared→Prop) (E:Value→Shared→Prop),Q (.bool (g i j)) s→wpAny (model X.prog X.w) X.A (f (.int i t) (.int j u)) Q E s):
  OpR X f (rI0 λi j=>.bl (g i j)):=by
 intro pins s σ H x y v u Q I rx ry h;obtain⟨i,j,rfl,rfl,q⟩:=h;obtain⟨t,rfl⟩:=rx;obtain⟨t',rfl⟩:=ry;exact rule i j t t' s _ _ ⟨.bl (g i j),H,I,rfl,q⟩
def CPow (i j:Int):Prop:=0≤j∧j≤1000000∧i.natAbs<2^64
def CMul (i j:Int):Prop:=(-(2^64)<i∧i<2^64)∨(-(2^64)<j∧j<2^64)
theorem CMul.ok {i j:Int}(h:CMul i j):IntMulOk i j:=by
 rcases h with ⟨h1,h2⟩ | ⟨h1,h2⟩
 ·exact .of_left (intBits_le_64 h1 h2)
 ·exact .of_right (intBits_le_64 h1 h2)
theorem zhc:OpR X (binaryOp .Add) (rI0 λi j=>.int (i+j)):=opI0 λ_ _ _ _ _ _ _ q=>add_int q
theorem zj5:OpR X (binaryOp .Sub) (rI0 λi j=>.int (i-j)):=opI0 λ_ _ _ _ _ _ _ q=>sub_int q
theorem ziQ:OpR X (binaryOp .Mod) (rI (λ_ j=>0<j) λi j=>.int (i%j)):=opI λi j _ _ _ _ _ hc q=>by
 have h1:(0:Int)<j:=hc;exact mod_int' (by omega) (by rw[Int.fmod_eq_emod_of_nonneg i (by omega)]; exact q)
theorem zj4:OpR X (binaryOp .Pow) (rI CPow λi j=>.int (i^j.toNat)):=opI λ_ _ _ _ _ _ _ hc q=>pow_int_small hc.1 hc.2.1 hc.2.2 q
theorem unI {f:Value→Sem Value}{g:Int→Int}
  (rule:∀(i:Int) (t:Tok) (s:Shared) (Q:Value→Shared→Prop) (E:Value→Shared→Prop),Q (.int (g i) s.toks) { s with toks:=s.toks+1 }→wpAny (model X.prog X.w) X.A (f (.int i t)) Q E s):
  UnR X f (rU λi=>.int (g i)):=by
 intro pins s σ H x v Q I rx h;obtain⟨i,rfl,q⟩:=h;obtain⟨t,rfl⟩:=rx;exact rule i t s _ _ ⟨.int (g i),H,I.tok _,⟨_,rfl⟩,q⟩
theorem zjy:UnR X (unaryOp .USub) (rU λi=>.int (-i)):=unI λ_ _ _ _ _ q=>neg_int q
end
def zdP:V→V→Bool
 | .non,.non=>true | .non,.int _=>true | .int _,.non=>true | .non,.bl _=>true | .bl _,.non=>true | .non,.str _=>true | .str _,.non=>true
 | .int _,.int _=>true | .bl _,.bl _=>true | .str _,.str _=>true | .byt _,.byt _=>true
 | .int _,.str _=>true | .str _,.int _=>true | .bl _,.str _=>true | .str _,.bl _=>true
 | _,_=>false
def rEq:R2:=λx y H Q=>zdP x y=true∧Q (.bl (decide (x=y))) H
def rNe:R2:=λx y H Q=>zdP x y=true∧Q (.bl (!decide (x=y))) H
theorem zgJ {i j:Int}:decide (V.int i=V.int j)=(i==j):=by
 rw[Vaz];simp
theorem zfp {i j:Bool}:decide (V.bl i=V.bl j)=(i==j):=by
 rw[Vaz];simp
theorem zgn {i j:Str}:decide (V.str i=V.str j)=(i==j):=by
 rw[Vaz];simp
theorem zgO {i j:Array UInt8}:decide (V.byt i=V.byt j)=(i.toList==j.toList):=by
 rw[Vaz];cases i;cases j;simp
section
variable {X:Cx}{a b c:Expr}{ta tb tc:TE}{pos:Pos}
theorem zar {pins:List (Addr×Obj)}{σ:St}{H:Hp}{s:Shared}{Q:VK}{k k':Bool}(I:Inv X pins σ H s)(q:Q (.bl k) H)(e:k=k'):EP X pins σ Q (.bool k') s:=by
 subst e;exact⟨.bl k,H,I,rfl,q⟩
theorem zeL:OpR X (compareOp .Eq) rEq:=by
 intro pins s σ H x y v u Q I rx ry h;obtain⟨hs,q⟩:=h;cases x with
 | non=>
  cases rx;cases y with
  | non=>cases ry; exact PySem.EqNone.eq_none_none (zar I q (by simp))
  | bl j=>cases ry; exact PySem.EqNone.eq_none_bool (zar I q (by simp))
  | int j=>obtain⟨t',rfl⟩:=ry; exact PySem.EqNone.eq_none_int (zar I q (by simp))
  | str j=>obtain⟨t',rfl⟩:=ry; exact PySem.EqNone.eq_none_str (zar I q (by simp))
  | _=>exact absurd (show false=true from hs) Vae
 | bl i=>
  cases rx;cases y with
  | non=>cases ry; exact PySem.EqNone.eq_bool_none (zar I q (by simp))
  | bl j=>cases ry; exact eq_bool (zar I q zfp)
  | str j=>obtain⟨t',rfl⟩:=ry; exact PySem.EqMixed.eq_bool_str (zar I q (by simp))
  | _=>exact absurd (show false=true from hs) Vae
 | int i=>
  obtain⟨t,rfl⟩:=rx;cases y with
  | non=>cases ry; exact PySem.EqNone.eq_int_none (zar I q (by simp))
  | int j=>obtain⟨t',rfl⟩:=ry; exact eq_int (zar I q zgJ)
  | str j=>obtain⟨t',rfl⟩:=ry; exact PySem.EqMixed.eq_int_str (zar I q (by simp))
  | _=>exact absurd (show false=true from hs) Vae
 | str i=>
  obtain⟨t,rfl⟩:=rx;cases y with
  | non=>cases ry; exact PySem.EqNone.eq_str_none (zar I q (by simp))
  | bl j=>cases ry; exact PySem.EqMixed.eq_str_bool (zar I q (by simp))
  | int j=>obtain⟨t',rfl⟩:=ry; exact PySem.EqMixed.eq_str_int (zar I q (by simp))
  | str j=>obtain⟨t',rfl⟩:=ry; exact eq_str (zar I q zgn)
  | _=>exact absurd (show false=true from hs) Vae
 | byt i=>
  obtain⟨t,rfl⟩:=rx;cases y with
  | byt j=>obtain⟨t',rfl⟩:=ry; exact PySem.W.eq_bytes (zar I q zgO)
  | _=>exact absurd (show false=true from hs) Vae
 | _=>cases y <;> exact absurd (show false=true from hs) Vae
theorem op_ne:OpR X (compareOp .NotEq) rNe:=by
 intro pins s σ H x y v u Q I rx ry h;obtain⟨hs,q⟩:=h;cases x with
 | non=>
  cases rx;cases y with
  | non=>cases ry; exact PySem.EqNone.ne_none_none (zar I q (by simp))
  | bl j=>cases ry; exact PySem.EqNone.ne_none_bool (zar I q (by simp))
  | int j=>obtain⟨t',rfl⟩:=ry; exact PySem.EqNone.ne_none_int (zar I q (by simp))
  | str j=>obtain⟨t',rfl⟩:=ry; exact PySem.EqNone.ne_none_str (zar I q (by simp))
  | _=>exact absurd (show false=true from hs) Vae
 | bl i=>
  cases rx;cases y with
  | non=>cases ry; exact PySem.EqNone.ne_bool_none (zar I q (by simp))
  | bl j=>cases ry; exact ne_bool (zar I q (congrArg not zfp))
  | str j=>obtain⟨t',rfl⟩:=ry; exact PySem.EqMixed.ne_bool_str (zar I q (by simp))
  | _=>exact absurd (show false=true from hs) Vae
 | int i=>
  obtain⟨t,rfl⟩:=rx;cases y with
  | non=>cases ry; exact PySem.EqNone.ne_int_none (zar I q (by simp))
  | int j=>obtain⟨t',rfl⟩:=ry; exact ne_int (zar I q (congrArg not zgJ))
  | str j=>obtain⟨t',rfl⟩:=ry; exact PySem.EqMixed.ne_int_str (zar I q (by simp))
  | _=>exact absurd (show false=true from hs) Vae
 | str i=>
  obtain⟨t,rfl⟩:=rx;cases y with
  | non=>cases ry; exact PySem.EqNone.ne_str_none (zar I q (by simp))
  | bl j=>cases ry; exact PySem.EqMixed.ne_str_bool (zar I q (by simp))
  | int j=>obtain⟨t',rfl⟩:=ry; exact PySem.EqMixed.ne_str_int (zar I q (by simp))
  | str j=>obtain⟨t',rfl⟩:=ry; exact ne_str (zar I q (congrArg not zgn))
  | _=>exact absurd (show false=true from hs) Vae
 | byt i=>
  obtain⟨t,rfl⟩:=rx;cases y with
  | byt j=>obtain⟨t',rfl⟩:=ry; exact PySem.W.ne_bytes (zar I q (congrArg not zgO))
  | _=>exact absurd (show false=true from hs) Vae
 | _=>cases y <;> exact absurd (show false=true from hs) Vae
theorem op_lt:OpR X (compareOp .Lt) (rI0 λi j=>.bl (decide (i<j))):=opB0 λ_ _ _ _ _ _ _ q=>lt_int q
theorem OpR.or {f:Value→Value→Sem Value}{r r':R2}(h:OpR X f r)(h':OpR X f r'):OpR X f (λx y H Q=>r x y H Q∨r' x y H Q):=by
 intro pins s σ H x y v u Q I rx ry q;rcases q with q | q
 ·exact h pins s σ H x y v u Q I rx ry q
 ·exact h' pins s σ H x y v u Q I rx ry q
theorem zaH (b:Expr){op:CmpOp}(h:op≠.In:=by decide)(h2:op≠.NotIn:=by decide):behindInMarks op b=false:=by
 have e1:(op==CmpOp.In)=false:=by cases op <;> first | rfl | exact absurd rfl h
 have e2:(op==CmpOp.NotIn)=false:=by cases op <;> first | rfl | exact absurd rfl h2
 cases b <;> simp[behindInMarks,e1,e2]
theorem zjn {op:CmpOp}{r:R2}(ho:OpR X (compareOp op) r)(ha:PE X a ta)(hb:PE X b tb)(hm:behindInMarks op b=false):PE X (.Compare a [op] [b] pos) (tOp r ta tb):=by
 intro pins s σ H Q I h;exact wpAny_Compare1 (zdJ ha hb I h λv u s2 x y H2 I2 rx ry q=>ho pins s2 σ H2 x y v u Q I2 rx ry q) hm
def tTest (t:TE):TT:=λσ H Q=>t σ H λx H'=>∃k,x=.bl k∧Q k H'
theorem zhq {op:CmpOp}{r:R2}(ho:OpR X (compareOp op) r)(ha:PE X a ta)(hb:PE X b tb)(hm:behindInMarks op b=false):PT X (.Compare a [op] [b] pos) (tTest (tOp r ta tb)):=by
 intro pins s σ H Q I h;refine wpAny_isTrue_Compare1 (thn (ha pins s σ H _ I h) λv s1 ⟨x,H1,I1,r1,q1⟩=>thn (hb pins s1 σ H1 _ I1 q1) λu s2 ⟨y,H2,I2,r2,q2⟩=>
  thn (ho pins s2 σ H2 x y v u _ I2 r1 r2 q2) λc s3 ⟨z,H3,I3,r3,k,e,q3⟩=>?_) hm
 subst e;cases r3;exact wpAny_truthy_bool ⟨H3,I3,q3⟩
theorem zdy:(sizeLine:Nat)<2^63:=by rw[sizeLine_eq]; decide
def zfJ (b:Expr):Prop:=∀o i,subscripted b false o i=operate [o,i] (getItem o i)
theorem zhN (ha:PE X a ta)(hb:PE X b tb)(hs:zfJ b):
  PE X (.Subscript a b pos) (tOp (λx y H Q=>∃z i c,x=.str z∧y=.int i∧0≤i∧i<2^63∧i<z.length∧z.cps[i.toNat]?=some c∧Q (.str ⟨#[c]⟩) H) ta tb):=by
 intro pins s σ H Q I h;refine Subscript_ (zdJ ha hb I h λv u s2 x y H2 I2 rx ry q=>?_);obtain⟨z,i,c,rfl,rfl,h0,h63,h1,hc,q⟩:=q;obtain⟨t,rfl⟩:=rx;obtain⟨t',rfl⟩:=ry;have e:seqIndex? i z.length=some i.toNat:=PySem.StrLaws.seqIndex_nonneg h0 h1;exact tail_any (typeIs_str s2 z t) slot_str_getitem.lookup (getItem_str (c:=c) (by
  have e1:decide (i < -(2^63:Int))=false:=decide_eq_false (by omega)
  have e2:decide (i≥2^63)=false:=decide_eq_false (by omega);rw[e1,e2] <;> rfl) (by rw[e]; exact hc) ⟨.str ⟨#[c]⟩,H2,I2.tok _,⟨_,rfl⟩,q⟩) (hs _ _)
theorem zdm {x:V}{us:List Value}(r:zac [x] us):∃u,us=[u]∧zab x u:=by
 cases r with
 | cons r1 r2=>cases r2; exact⟨_,rfl,r1⟩
theorem zgr {x y:V}{us:List Value}(r:zac [x,y] us):∃u w',us=[u,w']∧zab x u∧zab y w':=by
 cases r with
 | cons r1 r2=>
  cases r2 with
  | cons r3 r4=>cases r4; exact⟨_,_,rfl,r1,r3⟩
theorem zjY:zaQ X (.builtin "abs") (λxs H Q=>∃i,xs=[.int i]∧Q (.int (if i<0 then -i else i)) H):=by
 intro pins s σ H xs us Q I r h;obtain⟨i,rfl,q⟩:=h;obtain⟨u,rfl,t,rfl⟩:=zdm r;exact call_abs_int λu tk=>⟨.int (if i<0 then -i else i),H,I.tok _,⟨_,rfl⟩,q⟩
end
end L2
namespace L2
open PySem PySem.Spec PyProof.Rows
structure ObjM (h:Heap)(x dx C:Addr)(mA:Str→Option Value):Prop where
 obj:h.get? x=some (PySem.W.instObj C dx)
 ns:h.Ns1 dx mA
 ne:dx≠x
theorem zf8 {h:Heap}{dx:Addr}{mA:Str→Option Value}(n:h.Ns1 dx mA):∃od,h.get? dx=some od∧∀name,PySem.W.lookIn name od=some (mA name):=by
 obtain⟨o,es,ep,ho,hd,hk,_,hm⟩:=n;refine⟨o,ho,λname=>?_⟩;have e:=hm name;unfold nsFind findBy at e;rw[← Array.find?_toList] at e;unfold PySem.W.lookIn;rw[hd];dsimp only;split
 ·rename_i y q;rw[q] at e;exact congrArg some e
 ·rename_i q;rw[q] at e;have a:es.toList.any (·.refKey)=false:=by
   rw[List.any_eq_false];intro y hy;obtain⟨z,t,hkey⟩:=hk y (Array.mem_toList_iff.mp hy);simp[DictEntry.refKey,hkey]
  have a':¬ es.toList.any (·.refKey)=true:=by rw[a]; exact Vae
  rw[if_neg a'];exact congrArg some e
theorem ObjM.look {h:Heap}{x dx C:Addr}{mA:Str→Option Value}(I:ObjM h x dx C mA):∃od,PySem.W.InstAt h x (PySem.W.instObj C dx) C (some od)∧∀name,PySem.W.lookIn name od=some (mA name):=
 let ⟨od,ho,hl⟩:=zf8 I.ns
 ⟨od,⟨I.obj,rfl,rfl,ho⟩,hl⟩
section
variable {prog:Program}{w:World}{A:Around}{E:Value→Shared→Prop}{s:Shared}{K:PySem.W.Frag}{x dx C f:Addr}{mA:Str→Option Value}{name:Str}{v:Value}
end
def putF (f:Str)(v:V):List (Str×V)→List (Str×V)
 | []=>[(f,v)]
 | (g,x)::r=>if g=f then (g,v)::r else (g,x)::putF f v r
section
variable {P:Program}{w:World}{H H':Hp}{h h':Heap}{a C dx:Addr}{fs fs':List (Str×V)}
theorem zhF (hok:HOk P w H h)(e:H a=some (.ins C dx fs)):∃mA,ObjM h a dx C mA∧(∀f,zbh (fs.lookup f) (mA f))∧PySem.Within mA (fs.map (·.1))∧fs.length≤1000∧H dx=some (.own a):=by
 obtain⟨d,z,ne,ob,mA,n,r,q⟩:=(show zaC P w H h a (.ins C dx fs) from hok a _ e);exact⟨mA,⟨ob,n,ne⟩,r,q,z,d⟩
end
structure Cls (K:PySem.W.Frag)(C:Addr):Prop where
 pg:PySem.W.plainGet K C Str.empty=true
 hd:PySem.W.hasDictIn K C=true
 po:PySem.W.plainOver K C=true
 sa:PySem.W.findIn K (.ref C) "__setattr__"=some (some (.builtin "object.__setattr__"))
theorem Cls.get {K:PySem.W.Frag}{C:Addr}(c:Cls K C)(f:Str):PySem.W.plainGet K C f=true:=c.pg
structure Con (K:PySem.W.Frag)(C:Addr)(f:Str)(v:V)(u:Value):Prop where
 at_:PySem.W.findIn K (.ref C) f=some (some u)
 rel:zab v u
 get:PySem.W.specialIn K u "__get__"=some none
 cp:PySem.W.copiedNames.contains f=false
structure Meth (K:PySem.W.Frag)(C:Addr)(m:Str)(f:Addr):Prop where
 at_:PySem.W.findIn K (.ref C) m=some (some (.ref f))
 fn:PySem.W.isFn K (.ref f)=true
 kp:PySem.W.keepIn K (.ref f)=true
section
variable {X:Cx}{pins:List (Addr×Obj)}{σ:St}{H:Hp}{s:Shared}{a C dx:Addr}{fs:List (Str×V)}{f:Str}{v:V}{A:Around}{E:Value→Shared→Prop}
theorem Inv.made (I:Inv X pins σ H s):Inv X pins σ (upd (upd H s.heap.objs.size (.own (s.heap.objs.size+1))) (s.heap.objs.size+1) (.ins C s.heap.objs.size []))
  { s with heap:=(s.heap.push PySem.W.emptyDict).push (PySem.W.instObj C s.heap.objs.size) }:=by
 have e1:(s.heap.push PySem.W.emptyDict).get? s.heap.objs.size=some PySem.W.emptyDict:=Heap.get?_push_size s.heap rfl
 have e2:((s.heap.push PySem.W.emptyDict).push (PySem.W.instObj C s.heap.objs.size)).get? (s.heap.objs.size+1)=some (PySem.W.instObj C s.heap.objs.size):=by
  have:=Heap.get?_push_size (s.heap.push PySem.W.emptyDict) (o:=PySem.W.instObj C s.heap.objs.size) rfl
  rwa [Heap.size_push] at this
 have e3:(s.heap.push PySem.W.emptyDict).Ns s.heap.objs.size (λ_=>none):=⟨PySem.W.emptyDict,#[],_,e1,rfl,(λe he=>absurd he (by simp)),λ_=>rfl⟩
 have I1:=I.laid (a:=s.heap.objs.size) (o:=.own (s.heap.objs.size+1)) (h':=s.heap.push PySem.W.emptyDict) (t':=s.toks) (λb u q=>Heap.get?_push_of_some _ q) (Vac _) ⟨_,e1⟩;refine I1.laid (a:=s.heap.objs.size+1) (o:=.ins C s.heap.objs.size []) (t':=s.toks) (λb u q=>Heap.get?_push_of_some _ q) (Nat.le_of_eq (Heap.size_push _ _)) ?_;have ne:s.heap.objs.size≠s.heap.objs.size+1:=Vab (Nat.lt_succ_self _);refine⟨by rw[zah ne,zaI],VaA _,ne,e2,λ_=>none,(Heap.Ns1.of_empty e3).at λo q=>Heap.get?_push_of_some _ q,λ_=>True.intro,λy hy=>absurd rfl hy⟩
theorem zju {prog:Program}{w:World}{env:Env}{e:Expr}{f:Str}{pos:Pos}{s:Shared}{Q:Value→Shared→Prop}(hb:attributeBase e f env (eval e env)=eval e env)
  (h:wpAny (model prog w) A (eval e env) (λo s₁=>wpAny (model prog w) A (getAttr o f true) Q E s₁) E s):wpAny (model prog w) A (eval (.Attribute e f pos) env) Q E s:=
 Attribute_any_ h (by rw[arm_eval_Attribute,hb])
end
section
variable {X:Cx}{o e value:Expr}{f:Str}{pos pos' tpos:Pos}{ta tv:TE}
end
section
variable {X:Cx}{pins:List (Addr×Obj)}{σ:St}{H:Hp}{s:Shared}{A:Around}{E:Value→Shared→Prop}{Q:Value→Shared→Prop}{c:Value}{b:Bool}
inductive zaT (K:PySem.W.Frag)(H:Hp):V→Value→Prop where
 | non:zaT K H .non (.type "NoneType")
 | bl (x:Bool):zaT K H (.bl x) (.type "bool")
 | int (i:Int):zaT K H (.int i) (.type "int")
 | str (x:Str):zaT K H (.str x) (.type "str")
 | flt (x:UInt64):zaT K H (.flt x) (.type "float")
 | lst {a:Addr} {xs:List V} (e:H a=some (.lst xs)):zaT K H (.ref a) (.type "list")
 | frz {a:Addr} {o:Obj} {xs:List V} (e:H a=some (.frz o (.lst xs))):zaT K H (.ref a) (.type "list")
 | tup {a:Addr} {xs:List V} (e:H a=some (.tup xs)):zaT K H (.ref a) (.type "tuple")
 | dK {a:Addr} {kvs:List (Key×V)} (e:H a=some (.dK kvs)):zaT K H (.ref a) (.type "dict")
 | dT {a:Addr} {kvs:List (List Key×V)} (e:H a=some (.dT kvs)):zaT K H (.ref a) (.type "dict")
 | ins {a C dx:Addr} {fs:List (Str×V)} (e:H a=some (.ins C dx fs)) (cl:Cls K C) (ha:PySem.W.findIn K (.ref C) "__class__"=some (some (.builtin "object.__class__")))
   (hn:PySem.W.specialIn K (.builtin "object.__class__") "__get__"=some (some (.builtin "getset_descriptor.__get__"))) (htk:PySem.W.takesIn K (.builtin "object.__class__")=some true)
   (hm:PySem.W.mroIn K C (.type "object")=some true):zaT K H (.ref a) (.ref C)
theorem zjq {x:V}{u t:Value}(I:Inv X pins σ H s)(rx:zab x u)(ty:zaT X.K H x t)(e:PySem.W.kitOne X.K t c=some b)(h:∀tk,Q (.bool b) { s with toks:=tk }):
  wpAny (model X.prog X.w) A (call (.builtin "isinstance") [u,c]) Q E s:=by
 cases ty with
 | non=>cases (show u=Value.none from rx); exact PySem.W.kia_one PySem.W.kitx_none I.kIn True.intro e (λz=>nomatch z) h
 | bl y=>cases (show u=Value.bool y from rx); exact PySem.W.kia_one PySem.W.kitx_bool I.kIn True.intro e (λz=>nomatch z) h
 | int i=>obtain⟨t,q⟩:=(show ∃t,u=Value.int i t from rx); cases q; exact PySem.W.kia_one PySem.W.kitx_int I.kIn True.intro e (λz=>nomatch z) h
 | str y=>obtain⟨t,q⟩:=(show ∃t,u=Value.str y t from rx); cases q; exact PySem.W.kia_one PySem.W.kitx_str I.kIn True.intro e (λz=>nomatch z) h
 | flt y=>obtain⟨t,q⟩:=(show ∃t,u=Value.float y t from rx); cases q; exact PySem.W.kia_one PySem.W.kitx_float I.kIn True.intro e (λz=>nomatch z) h
 | @lst a xs ea=>
  cases (show u=Value.ref a from rx);obtain⟨_,_,n,_,h1⟩:=(show zaC X.prog X.w H s.heap a (.lst xs) from I.hok a _ ea);exact PySem.W.kia_one PySem.W.kitx_list I.kIn ⟨_,h1,rfl⟩ e (λz=>nomatch z) h
 | @frz a ob xs ea=>
  cases (show u=Value.ref a from rx);obtain⟨_,_,_,n,_,h1⟩:=(show zaC X.prog X.w H s.heap a (.frz ob (.lst xs)) from I.hok a _ ea);exact PySem.W.kia_one PySem.W.kitx_list I.kIn ⟨_,h1,rfl⟩ e (λz=>nomatch z) h
 | @tup a xs ea=>
  cases (show u=Value.ref a from rx);obtain⟨_,_,_,p⟩:=(show zaC X.prog X.w H s.heap a (.tup xs) from I.hok a _ ea);obtain⟨o,h1,h2,_⟩:=p;exact PySem.W.kia_one PySem.W.kitx_tuple I.kIn ⟨o,h1,h2⟩ e (λz=>nomatch z) h
 | @dK a kvs ea=>
  cases (show u=Value.ref a from rx);obtain⟨_,_,vs,_,p⟩:=(show zaC X.prog X.w H s.heap a (.dK kvs) from I.hok a _ ea);obtain⟨o,es,ep,h1,h2,_⟩:=p;exact PySem.W.kia_one PySem.W.kitx_dict I.kIn ⟨o,h1,h2.1⟩ e (λz=>nomatch z) h
 | @dT a kvs ea=>
  cases (show u=Value.ref a from rx);obtain⟨_,_,xs,_,o,es,ep,h1,h2,_⟩:=(show zaC X.prog X.w H s.heap a (.dT kvs) from I.hok a _ ea);exact PySem.W.kia_one PySem.W.kitx_dict I.kIn ⟨o,h1,h2.1⟩ e (λz=>nomatch z) h
 | @ins a C dx fs ea cl ha hn htk hm=>
  cases (show u=Value.ref a from rx);obtain⟨mA,O,_⟩:=zhF I.hok ea;obtain⟨od,J,_⟩:=O.look;exact PySem.W.kia_one (PySem.W.kitx_own (cl.get _) cl.hd ha hn htk hm) I.kIn J e (λz=>nomatch z) h
end
end L2
namespace L2
open PySem PySem.Spec PyProof.Rows
structure zan (k:Nat)(A:Around):Prop where
 hd:A.handled=none
 dp:A.depth+3*k+5<recursionLimit
 un:A.units+16*k+200<cLine
theorem zan.mono {j k:Nat}{A:Around}(r:zan k A)(h:j≤k):zan j A:=⟨r.hd,by have:=r.dp; omega,by have:=r.un; omega⟩
theorem zan.deeper {k:Nat}{A:Around}(r:zan (k+1) A)(env:Env):zan k (A.deeper env):=
 ⟨r.hd,by have:=r.dp; show A.depth+1+3*k+5<_; omega,by have:=r.un; show A.units+3+16*k+200<_; omega⟩
theorem zan.in1 {k:Nat}{A:Around}(r:zan (k+1) A):zan k A.in1:=
 ⟨r.hd,by have:=r.dp; show A.depth+3*k+5<_; omega,by have:=r.un; show A.units+1+16*k+200<_; omega⟩
theorem zhO {A:Around}{C:Addr}{us:List Value}{kw:List (Str×Value)}:(A.under (.builtin "type.__call__" ⟨.ref C::us,kw⟩)).depth=A.depth+1:=by
 first | rfl | simp[Around.under,Code.weight,Code.isCreation,Code.isGuard,Code.isCaller,Code.frames,Code.isFrame,guardIds]
theorem zic {A:Around}{C:Addr}{us:List Value}{kw:List (Str×Value)}:(A.under (.builtin "type.__call__" ⟨.ref C::us,kw⟩)).units=A.units+1:=by
 first | rfl | simp[Around.under,Code.cUnits,Code.frames,Code.isFrame]
theorem zan.make {k:Nat}{A:Around}(r:zan (k+1) A)(C:Addr)(us:List Value)(kw:List (Str×Value)):zan k (A.under (.builtin "type.__call__" ⟨.ref C::us,kw⟩)):=
 ⟨r.hd,by have:=r.dp; rw[zhO]; omega,by have:=r.un; rw[zic]; omega⟩
theorem zan.depth {k:Nat}{A:Around}(r:zan k A):A.depth<recursionLimit:=by have:=r.dp; omega
theorem zan.units {k:Nat}{A:Around}(r:zan k A):A.units+64<cLine:=by have:=r.un; omega
def tNil:TA:=λ_ H Q=>Q [] H
def tCons (ta:TE)(tr:TA):TA:=λσ H Q=>ta σ H λx H1=>tr σ H1 λxs H2=>Q (x::xs) H2
section
variable {X:Cx}{e:Expr}{es:List Expr}{te:TE}{t:TA}{pos:Pos}
theorem zc7:PA X [] tNil:=λ_ _ _ _ H Q I h=>Calls.spliced_nil ⟨[],H,I,.nil,h⟩
theorem zbP (ha:PE X e te)(hr:PA X es t)(hs:starEach (e::es) X.env=(false,eval e X.env)::starEach es X.env:=by rfl):PA X (e::es) (tCons te t):=by
 intro pos pins s σ H Q I h;rw[hs];show wpAny _ _ (spliced ((false,eval e X.env)::backTo pos (starEach es X.env))) _ _ s;refine Calls.spliced_cons (thn (ha pins s σ H _ I h) λu s1 ⟨x,H1,I1,r1,q1⟩=>?_);exact thn (hr pos pins s1 σ H1 _ I1 q1) λus s2 ⟨xs,H2,I2,r2,q2⟩=>⟨x::xs,H2,I2,.cons r1 r2,q2⟩
def tTup (t:TA):TE:=λσ H Q=>t σ H λxs H1=>xs.length≤sizeLine∧∀p,H1 p=none→Q (.ref p) (upd H1 p (.tup xs))
def tLst (t:TA):TE:=λσ H Q=>t σ H λxs H1=>xs.length≤sizeLine∧∀p,H1 p=none→Q (.ref p) (upd H1 p (.lst xs))
theorem ziU {x1}(h:PA X es t):PE X (.Tuple es x1 pos) (tTup t):=by
 intro pins s σ H Q I hq;refine wpAny_Tuple_spliced (thn (h pos pins s σ H _ I hq) λus s1 ⟨xs,H1,I1,r,z,q⟩=>⟨by rw[← r.length]; exact z,?_⟩);have hf:H1 s1.heap.objs.size=none:=I1.hok.fresh (Vac _);refine⟨.ref s1.heap.objs.size,upd H1 s1.heap.objs.size (.tup xs),I1.laid (t':=s1.toks) (λb u e=>Heap.get?_push_of_some _ e) (Vac _) ?_,rfl,q _ hf⟩;exact⟨z,us,r,⟨_,Heap.get?_push_size _ rfl,rfl,_,rfl⟩⟩
theorem zjS (h:PA X es t):PE X (.List es pos) (tLst t):=by
 intro pins s σ H Q I hq;refine wpAny_List_spliced (thn (h pos pins s σ H _ I hq) λus s1 ⟨xs,H1,I1,r,z,q⟩=>⟨by rw[← r.length]; exact z,?_⟩);have hf:H1 s1.heap.objs.size=none:=I1.hok.fresh (Vac _);refine⟨.ref s1.heap.objs.size,upd H1 s1.heap.objs.size (.lst xs),I1.laid (t':=s1.toks) (λb u e=>Heap.get?_push_of_some _ e) (Vac _) ?_,rfl,q _ hf⟩;exact⟨z,us,0,r,Heap.get?_push_size _ rfl⟩
end
abbrev Sp:=List V→Hp→VK→XK→Prop
abbrev CXT:=List Env→Hp→Shared→XK→Value→Shared→Prop
structure zaY (P:Program)(w:World)(K:PySem.W.Frag)(mg:Str→Option Value)(base:Heap)(A:Around)(outer:List Env)(s:Shared)(H:Hp):Prop where
 frames:A.frames=some outer
 mod:Mod K mg base
 bs:∀b o,base.get? b=some o→s.heap.get? b=some o∧H b=none
 bsz:base.objs.size≤s.heap.objs.size
 funs:s.heap.FunFrames base outer
 frf:∀b∈frs outer,H b=none
 hok:HOk P w H s.heap
 bare:AllBare s.gens
def CE (outer:List Env)(P:Program)(w:World)(H:Hp)(s:Shared)(Q:VK)(u:Value)(s':Shared):Prop:=
 ∃v H',s'.os=s.os∧AllBare s'.gens∧Un (frs outer) [] H H' s.heap s'.heap∧HOk P w H' s'.heap∧zab v u∧Q v H'
def CR (CX:CXT)(outer:List Env)(P:Program)(w:World)(H:Hp)(s:Shared)(Q:VK)(E:XK)(r:Result)(s':Shared):Prop:=
 match r with
 | .ok (.ret u)=>CE outer P w H s Q u s'
 | .ok _=>False
 | .error e=>CX outer H s E e s'
structure zas (P:Program)(w:World)(K:PySem.W.Frag)(mg:Str→Option Value)(base:Heap)(CX:CXT)(k:Nat)(f:Addr)(fd:FuncData)(ps:List Str)(sp:Sp):Prop where
 len:∀vs H Q E,sp vs H Q E→vs.length=ps.length
 run:∀(A:Around) (outer:List Env) (s:Shared) (H:Hp) (args:Args) (us:List Value) (vs:List V) (Q:VK) (E:XK),zan k A→zaY P w K mg base A outer s H→BindsTo s fd args (ps.zip us)→zac vs us→sp vs H Q E→
  codeAny (model P w) A (.call (.ref f) args) (CR CX outer P w H s Q E) s
theorem zas.mono {P:Program}{w:World}{K:PySem.W.Frag}{mg:Str→Option Value}{base:Heap}{CX:CXT}{j k:Nat}{f:Addr}{fd:FuncData}{ps:List Str}{sp:Sp}(F:zas P w K mg base CX j f fd ps sp)(h:j≤k):
  zas P w K mg base CX k f fd ps sp:=⟨F.len,λA outer s H args us vs Q E hr=>F.run A outer s H args us vs Q E (hr.mono h)⟩
theorem zas.imp {P:Program}{w:World}{K:PySem.W.Frag}{mg:Str→Option Value}{base:Heap}{CX:CXT}{k:Nat}{f:Addr}{fd:FuncData}{ps:List Str}{sp sp':Sp}(F:zas P w K mg base CX k f fd ps sp)
  (h:∀vs H Q E,sp' vs H Q E→sp vs H Q E):zas P w K mg base CX k f fd ps sp':=
 ⟨λvs H Q E q=>F.len vs H Q E (h _ _ _ _ q),λA outer s H args us vs Q E hr he hb hv hs=>F.run A outer s H args us vs Q E hr he hb hv (h _ _ _ _ hs)⟩
theorem zaY.make {P:Program}{w:World}{K:PySem.W.Frag}{mg:Str→Option Value}{base:Heap}{A:Around}{outer:List Env}{s:Shared}{H:Hp}(e:zaY P w K mg base A outer s H)(C:Addr)(us:List Value)(kw:List (Str×Value)):
  zaY P w K mg base (A.under (.builtin "type.__call__" ⟨.ref C::us,kw⟩)) outer s H:=⟨by first | exact e.frames | (simpa [Around.under,Code.envs,Code.isFrame,pushEnvs] using e.frames),e.mod,e.bs,e.bsz,e.funs,e.frf,e.hok,e.bare⟩
theorem zaY.in1 {P:Program}{w:World}{K:PySem.W.Frag}{mg:Str→Option Value}{base:Heap}{A:Around}{outer:List Env}{s:Shared}{H:Hp}(e:zaY P w K mg base A outer s H):
  zaY P w K mg base A.in1 outer s H:=⟨e.frames,e.mod,e.bs,e.bsz,e.funs,e.frf,e.hok,e.bare⟩
section
variable {X:Cx}{pins:List (Addr×Obj)}{σ:St}{H:Hp}{s s':Shared}
theorem Inv.env0 (I:Inv X pins σ H s):zaY X.prog X.w X.K X.mg X.base X.A X.stack s H:=
 ⟨I.ok.frames,I.ok.mod,I.bs,Vam I.ok.bsz I.sz,I.stack,I.stkFree,I.hok,I.bare⟩
theorem Inv.after {Q:VK}{u:Value}(I:Inv X pins σ H s)(h:CE X.stack X.prog X.w H s Q u s'):EP X pins σ Q u s':=by
 obtain⟨v,H',os,bare,un,hok,r,q⟩:=h;obtain⟨hh,g,d,t,os'⟩:=s';obtain rfl:os'=s.os:=os;exact⟨v,H',I.call (h':=hh) (g':=g) (d':=d) (t':=t) (ch:=[]) un hok bare (λb z=>absurd z (by simp)),r,q⟩
end
def zaD (K:PySem.W.Frag)(fd:FuncData)(ps:List Str)(ds:List Value):Prop:=
 ∀(s:Shared) (us:List Value),K.In s.heap→(us++ds).length=ps.length→BindsTo s fd ⟨us,[]⟩ (ps.zip (us++ds))
theorem zaD.all {K:PySem.W.Frag}{fd:FuncData}{ps:List Str}(h:∀us:List Value,us.length=ps.length→bindArgs fd ⟨us,[]⟩=pure (ps.zip us)):zaD K fd ps []:=λs us _ hl=>by
 rw[Vau] at hl ⊢;exact .of_eq (h us hl)
def zjs (CX:CXT)(X:Cx)(E:XK):Prop:=∀(pins:List (Addr×Obj)) (σ:St) (H:Hp) (s:Shared) (e:Value) (s':Shared),Inv X pins σ H s→CX X.stack H s E e s'→X.xe e s'
section
variable {X:Cx}{CX:CXT}{k:Nat}{f C:Addr}{fd:FuncData}{ps:List Str}{sp:Sp}{dvs:List V}{ds:List Value}{E:XK}{x m:Str}{p pos apos:Pos}{e o:Expr}{es:List Expr}{ta:TE}{t:TA}
structure Mk (K:PySem.W.Frag)(C f:Addr):Prop where
 makes:PySem.W.makesIn K C=true
 init:PySem.W.findIn K (.ref C) "__init__"=some (some (.ref f))
 fn:PySem.W.isFn K (.ref f)=true
 kp:PySem.W.keepIn K (.ref C)=true
end
section
variable {X:Cx}{CX:CXT}{k:Nat}{f C:Addr}{fd:FuncData}{ps ks:List Str}{sp:Sp}{E:XK}{x m:Str}{p pos apos kpos:Pos}{e o:Expr}{es:List Expr}{kws:List Keyword}{te ta:TE}{t tk:TA}{nm:Option Str}
structure KBinds (K:PySem.W.Frag)(fd:FuncData)(ps ks:List Str)(g:List Value→List Value→List Value)(gV:List V→List V→List V):Prop where
 to:∀(s:Shared) (us ws:List Value),K.In s.heap→(g us ws).length=ps.length→BindsTo s fd ⟨us,ks.zip ws⟩ (ps.zip (g us ws))
 rel:∀ {vs:List V} {us:List Value} {zs:List V} {ws:List Value},zac vs us→zac zs ws→zac (gV vs zs) (g us ws)
variable {g:List Value→List Value→List Value}{gV:List V→List V→List V}
end
structure zau (N P:List Str)(sc:Scope):Prop where
 kind:sc.kind=.function
 co:sc.isCoroutine=false
 gen:sc.isGenerator=false
 nd:N.Nodup
 pre:N.take P.length=P
 par:∀x∈P,sc.names.lookup x=some .local∨sc.names.lookup x=some .cell
 nofree:∀y∈sc.names,y.2≠.free
theorem zfA {kindOf:Str→Option NameKind}{x:Str}:∀ {binds:List (Str×Value)} {m:Str→Option Value},(∀v,(x,v) ∉ binds)→bindL kindOf binds m x=m x
 | [],_,_=>rfl
 | (n,v)::r,m,h=>by
  unfold bindL;rw[zfA λw hw=>h w (Vaq _ hw)];split
  ·have:x≠n:=by rintro rfl; exact h v Vat
   simp[this]
  ·rfl
theorem zgz {kindOf:Str→Option NameKind}{x:Str}:∀ {binds:List (Str×Value)} {m:Str→Option Value},(∀v,(x,v) ∉ binds)→bindC kindOf binds m x=m x
 | [],_,_=>rfl
 | (n,v)::r,m,h=>by
  unfold bindC;rw[zgz λw hw=>h w (Vaq _ hw)];split
  ·rfl
  ·have:x≠n:=by rintro rfl; exact h v Vat
   simp[this]
theorem zgg {kindOf:Str→Option NameKind}{x:Str}{v:Value}:∀ {P:List Str} {vs:List Value} {i:Nat} {m:Str→Option Value},P.Nodup→P[i]?=some x→vs[i]?=some v→kindOf x=some .local→
  bindL kindOf (P.zip vs) m x=some v
 | [],_,_,_,_,h,_,_=>by simp at h
 | _::_,[],_,_,_,_,h,_=>by simp at h
 | p::P,w::vs,0,m,nd,h1,h2,hk=>by
  simp at h1 h2; subst h1; subst h2
  show bindL kindOf ((p,w)::P.zip vs) m p=_;unfold bindL;rw[zfA λv hv=>(VaF.mp nd).1 (VaG hv).1,if_pos hk];simp
 | p::P,w::vs,i+1,m,nd,h1,h2,hk=>by
  show bindL kindOf ((p,w)::P.zip vs) m x=_;unfold bindL;exact zgg (i:=i) (VaF.mp nd).2 (by simpa using h1) (by simpa using h2) hk
theorem zfC {kindOf:Str→Option NameKind}{x:Str}{v:Value}:∀ {P:List Str} {vs:List Value} {i:Nat} {m:Str→Option Value},P.Nodup→P[i]?=some x→vs[i]?=some v→kindOf x≠some .local→
  bindC kindOf (P.zip vs) m x=some v
 | [],_,_,_,_,h,_,_=>by simp at h
 | _::_,[],_,_,_,_,h,_=>by simp at h
 | p::P,w::vs,0,m,nd,h1,h2,hk=>by
  simp at h1 h2; subst h1; subst h2
  show bindC kindOf ((p,w)::P.zip vs) m p=_;unfold bindC;rw[zgz λv hv=>(VaF.mp nd).1 (VaG hv).1,if_neg hk];simp
 | p::P,w::vs,i+1,m,nd,h1,h2,hk=>by
  show bindC kindOf ((p,w)::P.zip vs) m x=_;unfold bindC;exact zfC (i:=i) (VaF.mp nd).2 (by simpa using h1) (by simpa using h2) hk
def zaP (N:List Str)(vs:List V):St:=vs.map some++List.replicate (N.length-vs.length) none
def zat (CX:CXT)(P:Program)(w:World)(K:PySem.W.Frag)(mg:Str→Option Value)(base:Heap)(N:List Str)(qual:Str)(scope:Scope)(f:Addr)(cd:Value)(A:Around)(outer:List Env)(s:Shared)(H:Hp)(E:XK):Cx where
 prog:=P
 w:=w
 K:=K
 mg:=mg
 base:=base
 A:=A.deeper (envOfC qual scope s.heap.objs.size f cd)
 N:=N
 s₀:=s
 H₀:=H
 env:=envOfC qual scope s.heap.objs.size f cd
 outer:=outer
 stack:=envOfC qual scope s.heap.objs.size f cd::outer
 ex:=[]
 calm:=true
 fn:=λ_=>true
 pn:=[]
 xe:=λe s'=>wpAny (model P w) (A.deeper (envOfC qual scope s.heap.objs.size f cd)) (leaving (envOfC qual scope s.heap.objs.size f cd) e) (λ_ s''=>CX outer H s E e s'') (λe' s''=>CX outer H s E e' s'') s'
theorem zgF {sc:Scope}{n:Nat}{x:Str}(h:sc.names.lookup x=some .cell):∃c,(cellsFrom n sc.names []).lookup x=some c:=by
 have q:=PySem.W.cellsFrom_some sc.names n [] (.inl h);exact Va1.mp q
theorem zfK {CX:CXT}{P:Program}{w:World}{K:PySem.W.Frag}{mg:Str→Option Value}{base:Heap}{N ps:List Str}{qual:Str}{scope:Scope}{f:Addr}{cd:Value}{A:Around}{outer:List Env}{s s1:Shared}{H:Hp}{E:XK}{us:List Value}{vs:List V}
  (S:zau N ps scope)(hd:A.handled=none)(e0:zaY P w K mg base A outer s H)(hl:vs.length=ps.length)(r:zac vs us)
  (x:InCallC s s.heap.objs.size (bindL (envOfC qual scope s.heap.objs.size f cd).kindOf (ps.zip us) λ_=>none) (cellsFrom (s.heap.objs.size+1) scope.names []) (bindC (envOfC qual scope s.heap.objs.size f cd).kindOf (ps.zip us) λ_=>none) s1):
  Inv (zat CX P w K mg base N qual scope f cd A outer s H E) [] (zaP N vs) H s1:=by
 have hpl:ps.length≤N.length:=by have:=congrArg List.length S.pre; rw[List.length_take] at this; omega
 obtain⟨h1,tk,rfl,hk⟩:=x.done;have noA:∀b:Addr,b ∉ (zat CX P w K mg base N qual scope f cd A outer s H E).ex:=λb z=>absurd (show b∈([]:List Addr) from z) (by simp)
 refine⟨⟨e0.mod,S.kind,rfl,rfl,Vac _,λy z c h1 h2=>?_,λy hy=>?_,λy c _ h=>?_,λ_=>hd,Around.frames_deeper e0.frames,.inr ⟨rfl,rfl⟩,λb z=>absurd z (noA b),e0.bs,e0.bsz,λb _ _=>noA b,λb z=>absurd z (noA b),e0.funs,e0.frf⟩,
  rfl,e0.bare,Un.kept hk,⟨_,x.toInCall.ns,λi y v h1 h2 h3=>?_⟩,λy c h=>⟨_,x.cell y c h⟩,e0.hok.fresh (Vac _),λy c h=>?_,λp hp=>absurd (show p∈([]:List (Addr×Obj)) from hp) (by simp),e0.hok.kept hk,?_⟩
 ·exact name_of_addr x.apart (PySem.mem_of_lookup h1) (PySem.mem_of_lookup h2)
 ·have hy:scope.names.lookup y=some .cell∨scope.names.lookup y=some .free:=hy;rcases hy with hy | hy
  ·exact zgF hy
  ·exact absurd rfl (S.nofree _ (PySem.mem_of_lookup hy))
 ·exact Vaw (x.above y c (PySem.mem_of_lookup h))
 ·have hi:i<vs.length:=by
   unfold zaP at h2;by_cases hi:i<vs.length
   ·exact hi
   ·rw[Vax (by simpa using hi)] at h2;rw[Va2] at h2;split at h2 <;> cases h2
  have ha:vs[i]?=some v:=by
   unfold zaP at h2;rw[Vap (by simpa using hi),Var] at h2;cases e:vs[i]? with
   | none=>rw[e] at h2; cases h2
   | some a=>rw[e] at h2; cases h2; rfl
  obtain⟨u,hu,rv⟩:=r.get ha;have hp:ps[i]?=some y:=by
   rw[← S.pre,List.getElem?_take_of_lt (by omega)]; exact h1
  have ndP:ps.Nodup:=by rw[← S.pre]; exact S.nd.sublist (List.take_sublist _ _)
  refine⟨u,rv,?_⟩;rcases S.par y (Vav hp) with k | k
  ·exact .inl ⟨k,zgg ndP hp hu k⟩
  ·obtain⟨c,e⟩:=zgF (n:=s.heap.objs.size+1) k;refine .inr ⟨.inl k,c,e,?_⟩;have q:=x.cell y c e;rw[zfC ndP hp hu (by show scope.names.lookup y≠_; rw[k]; decide)] at q;exact q
 ·exact e0.hok.fresh (Vaw (x.above y c (PySem.mem_of_lookup h)))
 ·unfold zaP;show _=N.length;rw[VaB,VaH,List.length_replicate];omega
theorem zc8 {CX:CXT}{P:Program}{w:World}{K:PySem.W.Frag}{mg:Str→Option Value}{base:Heap}{k:Nat}{f:Addr}{name qual:Str}{params:Arguments}{body:List Stmt}{scope:Scope}{dV kV doc pm cdv ct oc:Value}{an od:Option Addr}
  {osl:Array (Option Value)}{N ps:List Str}{sp:Sp}(lk:K.lookup f=some ⟨oc,od,.func (PySem.W.fnOf name qual params body scope dV kV doc pm an cdv ct),osl⟩)(hcd:PySem.W.codeIn K cdv qual=true)(S:zau N ps scope)
  (len:∀vs H Q E,sp vs H Q E→vs.length=ps.length)
  (hbody:∀(A:Around) (outer:List Env) (s:Shared) (H:Hp) (vs:List V) (Q:VK) (E:XK),zan k (A.deeper (envOfC qual scope s.heap.objs.size f cdv))→sp vs H Q E→
   ∃t,PSs (zat CX P w K mg base N qual scope f cdv A outer s H E) body t∧t { nx:=λ_ H'=>Q .non H',rt:=Q } (zaP N vs) H):
  zas P w K mg base CX (k+1) f (PySem.W.fnOf name qual params body scope dV kV doc pm an cdv ct) ps sp:=by
 refine⟨len,λA outer s H args us vs Q E hr e0 hb r hsp=>?_⟩;have hl:=len _ _ _ _ hsp
 have KX:K.In s.heap:=e0.mod.kin.keeps λb o e=>(e0.bs b o e).1
 have lim:s.heap.NoLimit:=e0.mod.nolimit.keeps λb o e=>(e0.bs b o e).1
 have hkind:∀y∈ps.zip us,scope.names.lookup y.1=some .local∨(scope.names.lookup y.1=some .cell∧((cellsFrom (s.heap.objs.size+1) scope.names []).lookup y.1).isSome=true):=λ⟨n,v⟩ hy=>by
  rcases S.par n (VaG hy).1 with q | q
  ·exact .inl q
  ·exact .inr ⟨q,PySem.W.cellsFrom_some _ _ _ (.inl q)⟩
 refine codeAny_call_function hr.depth (KX _ _ lk) rfl S.co S.gen rfl (PySem.W.codeRec_of KX hcd) (hb _ _ _ _ ?_);refine wpAny_newFunctionEnv_cells S.kind hkind λenv he s1 x=>?_
 subst he;refine⟨lim.keeps x.toInCall.keep,codeAny_func ?_⟩;obtain⟨t,ht,hq⟩:=hbody A outer s H vs Q E (hr.deeper _) hsp;have I:Inv (zat CX P w K mg base N qual scope f cdv A outer s H E) [] (zaP N vs) H s1:=zfK S hr.hd e0 hl r x;refine wpAny_mono (ht [] s1 (zaP N vs) H _ I hq) (λfl s' hs=>?_) λe s' hs=>hs
 have fin:∀ {σ':St} {H':Hp} {v:V} {u:Value},Inv (zat CX P w K mg base N qual scope f cdv A outer s H E) [] σ' H' s'→zab v u→Q v H'→CE outer P w H s Q u s':=
  λ{σ' H' v u} J rv q=>⟨v,H',J.os,J.bare,J.base,J.hok,rv,q⟩
 cases fl with
 | ret u=>
  obtain⟨v,σ',H',J,rv,q⟩:=hs;exact fin J rv q
 | next=>
  obtain⟨σ',H',J,q⟩:=hs;exact fin (v:=V.non) (u:=Value.none) J rfl q
 | brk=>
  obtain⟨_,_,_,q⟩:=hs;exact False.elim q
 | cont=>
  obtain⟨_,_,_,q⟩:=hs;exact False.elim q
end L2
namespace L2
open PySem PySem.Spec PyProof.Rows
section
variable {X:Cx}{x:Str}{p pos:Pos}{e:Expr}{es:List Expr}{t:TA}{id T:String}{r:List V→Hp→VK→Prop}
def tCB (r:List V→Hp→VK→Prop)(t:TA):TE:=λσ H Q=>t σ H λvs H1=>r vs H1 Q
theorem zd4 (hc:zaQ X (.builtin id) r)(hg:Gl X x)(hm:X.mg x=none)(hv:bootBuiltins x=some (.builtin id))(ha:PA X (e::es) t)(hn:x≠"__name__":=by decide)(hdb:(x==("__debug__":Str))=false:=by decide)
  (he:starEach (e::es) X.env=(false,eval e X.env)::starEach es X.env:=by rfl)(hpl:(backTo pos (starEach es X.env)).any (·.1)=false:=by rfl):PE X (.Call (.Name x p) (e::es) [] pos) (tCB r t):=by
 intro pins s σ H Q I h;refine wpAny_Call_Name_kw (zcZ I hg hm hv ?_ hn hdb);exact PyProof.Rows.callWith_builtin1 (thn (ha pos pins s σ H _ I h) λus s1 ⟨vs,H1,I1,r1,q1⟩=>hc pins s1 σ H1 vs us Q I1 r1 q1) he hpl
end
end L2
namespace HT
open PySem PyProof.Rows
section
open PySem.SeqAt
open PySem.AutoSeq1 (wpAny_loadPart')
open PySem.MeetsSeq PySem.MeetsSeq2 PySem.MeetsSeq3
end
section
variable {prog:Program}{w:World}{A:Around}{E:Value→Shared→Prop}{s:Shared}
def sIx (n d:Nat):Option Int→Nat
 | none=>d
 | some v=>if v<0 then (v+(n:Int)).toNat else min v.toNat n
end
end HT
namespace L2
open PySem PySem.Spec PyProof.Rows
abbrev TO:=St→Hp→(Option Int→Hp→Prop)→Prop
section
variable {X:Cx}{e:Expr}{te:TE}{lo hi:Option Expr}{tl th:TO}{pos p2:Pos}
def SlR (X:Cx)(r:V→Option Int→Option Int→Hp→VK→Prop):Prop:=
 ∀(pins:List (Addr×Obj)) (s:Shared) (σ:St) (H:Hp) (x:V) (v vl vu:Value) (lo hi:Option Int) (sl:Addr) (Q:VK),Inv X pins σ H s→zab x v→s.heap.IsSliceOf sl vl vu .none→IsPart vl lo→IsPart vu hi→r x lo hi H Q→
  ∃T id,typeLookup (.type T) "__getitem__"=pure (some (.builtin id))∧s.TypeIs v T∧wpAny (model X.prog X.w) X.A (getItem v (.ref sl)) (EP X pins σ Q) X.xe s
theorem SlR.or {r r':V→Option Int→Option Int→Hp→VK→Prop}(h:SlR X r)(h':SlR X r'):SlR X (λx lo hi H Q=>r x lo hi H Q∨r' x lo hi H Q):=by
 intro pins s σ H x v vl vu lo hi sl Q I rx hs pl pu q;rcases q with q | q
 ·exact h pins s σ H x v vl vu lo hi sl Q I rx hs pl pu q
 ·exact h' pins s σ H x v vl vu lo hi sl Q I rx hs pl pu q
def cutV (xs:List V)(lo hi:Option Int):List V:=(xs.drop (HT.sIx xs.length 0 lo)).take (HT.sIx xs.length xs.length hi-HT.sIx xs.length 0 lo)
end
end L2
namespace L2
open PySem PySem.Spec PyProof.Rows
def ixN (n:Nat)(i:Int):Option Nat:=if 0≤i then (if i<n then some i.toNat else none) else if -(n:Int)≤i then some (i+n).toNat else none
def atI {α:Type}(xs:List α)(i:Int):Option α:=(ixN xs.length i).bind λj=>xs[j]?
theorem zjJ {n:Nat}{i:Int}{j:Nat}(h:ixN n i=some j):seqIndex? i n=some j∧j<n∧-(n:Int)≤i∧i<n:=by
 unfold ixN at h;by_cases h0:0≤i
 ·rw[if_pos h0] at h;by_cases h1:i<n
  ·rw[if_pos h1] at h;have e:i.toNat=j:=Option.some.inj h;exact⟨by rw[seqIndex_of h0 h1,e],by omega,by omega,h1⟩
  ·rw[if_neg h1] at h; cases h
 ·rw[if_neg h0] at h;by_cases h1:-(n:Int)≤i
  ·rw[if_pos h1] at h;have e:(i+n).toNat=j:=Option.some.inj h;exact⟨by rw[seqIndex_neg (by omega) h1,e],by omega,h1,by omega⟩
  ·rw[if_neg h1] at h; cases h
theorem zgi {α:Type}{xs:List α}{i:Int}{v:α}(h:atI xs i=some v):∃j,seqIndex? i xs.length=some j∧xs[j]?=some v∧j<xs.length∧-(xs.length:Int)≤i∧i<xs.length:=by
 unfold atI at h;cases e:ixN xs.length i with
 | none=>rw[e] at h; cases h
 | some j=>
  rw[e] at h;obtain⟨h1,h2,h3,h4⟩:=zjJ e;exact⟨j,h1,h,h2,h3,h4⟩
theorem ziP {α:Type}{xs:List α}{j:Nat}{v:α}(h:xs[j]?=some v):atI xs (j:Int)=some v:=by
 have hj:j<xs.length:=(Vad.mp h).1
 have e:ixN xs.length (j:Int)=some j:=by
  unfold ixN;rw[if_pos (by omega),if_pos (by omega)]; simp
 unfold atI; rw[e]; exact h
def zfo (b:Expr):Prop:=∀o i,subscripted b false o i=operate [o,i] (getItem o i)
def IxR (X:Cx)(r:R2):Prop:=
 ∀(value slice:Expr) (pins:List (Addr×Obj)) (s:Shared) (σ:St) (H:Hp) (x y:V) (v u:Value) (Q:VK),Inv X pins σ H s→zab x v→zab y u→r x y H Q→
  subscripted slice false v u=operate [v,u] (getItem v u)→wpAny (model X.prog X.w) X.A (subscriptTail value slice v u) (EP X pins σ Q) X.xe s
def MtR (X:Cx)(id:String)(r:V→List V→Hp→VK→Prop):Prop:=
 ∀(pins:List (Addr×Obj)) (s:Shared) (σ:St) (H:Hp) (x:V) (xs:List V) (v:Value) (us:List Value) (Q:VK),Inv X pins σ H s→zab x v→zac xs us→r x xs H Q→
  wpAny (model X.prog X.w) X.A (call (.builtin id) (v::us)) (EP X pins σ Q) X.xe s
section
variable {X:Cx}{a b:Expr}{ta tb:TE}{pos:Pos}
theorem IxR.or {r r':R2}(h:IxR X r)(h':IxR X r'):IxR X (λx y H Q=>r x y H Q∨r' x y H Q):=by
 intro value slice pins s σ H x y v u Q I rx ry q hs;rcases q with q | q
 ·exact h value slice pins s σ H x y v u Q I rx ry q hs
 ·exact h' value slice pins s σ H x y v u Q I rx ry q hs
theorem MtR.or {id:String}{r r':V→List V→Hp→VK→Prop}(h:MtR X id r)(h':MtR X id r'):MtR X id (λx xs H Q=>r x xs H Q∨r' x xs H Q):=by
 intro pins s σ H x xs v us Q I rx rs q;rcases q with q | q
 ·exact h pins s σ H x xs v us Q I rx rs q
 ·exact h' pins s σ H x xs v us Q I rx rs q
theorem pe_ix {r:R2}(hr:IxR X r)(ha:PE X a ta)(hb:PE X b tb)(hs:zfo b):PE X (.Subscript a b pos) (tOp r ta tb):=by
 intro pins s σ H Q I h;exact Subscript_ (zdJ ha hb I h λv u s2 x y H2 I2 rx ry q=>hr a b pins s2 σ H2 x y v u Q I2 rx ry q (hs _ _))
def rIxL (K:PySem.W.Frag):R2:=λx y H Q=>∃p xs i v,x=.ref p∧y=.int i∧SqL K H p xs∧atI xs i=some v∧Q v H
def rIxT (K:PySem.W.Frag):R2:=λx y H Q=>∃p xs i v,x=.ref p∧y=.int i∧SqT K H p xs∧atI xs i=some v∧Q v H
theorem zjl:IxR X (rIxL X.K):=by
 intro value slice pins s σ H x y v u Q I rx ry h hs;obtain⟨p,xs,i,z,rfl,rfl,hq,he,q⟩:=h;cases rx;obtain⟨t,rfl⟩:=ry;obtain⟨its,r,pl,hz⟩:=I.list hq;obtain⟨j,h1,h2,h3,h4,h5⟩:=zgi he;obtain⟨w,ew,rw'⟩:=r.get h2;have hl:=r.length
 have hn:=zdy
 have fin:EP X pins σ Q w s:=⟨z,H,I,rw',q⟩;by_cases h0:0≤i
 ·have hj:i.toNat=j:=by
   rw[seqIndex_of h0 h5] at h1;exact Option.some.inj h1
  exact item_listR pl.isList h0 (by omega) (by rw[hj]; simpa using ew) fin hs
 ·have hj:(i+(its.toArray.size:Int)).toNat=j:=by
   rw[seqIndex_neg (by omega) h4] at h1;rw[Vaj,← hl];exact Option.some.inj h1
  exact subscriptTail_builtinR (x:=w) pl.isList.typeIs slot_list_getitem.lookup
   (wpAny_getItem_list_neg (Q:=λr s'=>r=w∧EP X pins σ Q r s') pl.isList (by omega) (by rw[Vaj] <;> omega) (by omega) (by rw[hj]; simpa using ew) ⟨rfl,fin⟩) hs
theorem zjh:IxR X (rIxT X.K):=by
 intro value slice pins s σ H x y v u Q I rx ry h hs;obtain⟨p,xs,i,z,rfl,rfl,hq,he,q⟩:=h;cases rx;obtain⟨t,rfl⟩:=ry;obtain⟨its,r,pl,hz⟩:=I.tuple hq;obtain⟨j,h1,h2,h3,h4,h5⟩:=zgi he;obtain⟨w,ew,rw'⟩:=r.get h2;have hl:=r.length
 have hn:=zdy
 have fin:EP X pins σ Q w s:=⟨z,H,I,rw',q⟩;exact subscriptTail_builtinR (x:=w) pl.typeIs slot_tuple_getitem.lookup
  (getItem_tuple (j:=j) (Q:=λr s'=>r=w∧EP X pins σ Q r s') pl (by omega) (by omega) (by rw[Vaj,← hl]; exact h1) (by simpa using ew) ⟨rfl,fin⟩) hs
theorem Inv.lst {pins:List (Addr×Obj)}{σ:St}{H:Hp}{s:Shared}{p:Addr}{xs:List V}(I:Inv X pins σ H s)(h:H p=some (.lst xs)):
  ∃(its:List Value) (n:Nat),zac xs its∧s.heap.get? p=some { cls:=.type "list",data:=.seq its.toArray n }∧xs.length≤sizeLine:=by
 obtain⟨z,its,n,r,e⟩:=I.hok p _ h;exact⟨its,n,r,e,z⟩
def zdt:V→Bool
 | .non=>true
 | .bl _=>true
 | .int _=>true
 | .str _=>true
 | _=>false
def eqV:V→V→Bool
 | .non,.non=>true
 | .bl a,.bl b=>a==b
 | .bl a,.int b=>(if a then 1 else 0)==b
 | .int a,.bl b=>a==(if b then 1 else 0)
 | .int a,.int b=>a==b
 | .str a,.str b=>a==b
 | _,_=>false
theorem zh9 {A:Around}{s:Shared}{y x:V}{u v:Value}(ry:zab y u)(rx:zab x v)(fy:zdt y=true)(fx:zdt x=true):SeqAt.EqAt A s u v (eqV y x):=by
 cases y with
 | non=>
  cases ry;cases x with
  | non=>cases rx; exact SeqAt.EqAt.same _
  | bl b=>cases rx; exact SeqAt.EqAt.none_bool b
  | int b=>obtain⟨t,rfl⟩:=rx; exact SeqAt.EqAt.none_int b t
  | str b=>obtain⟨t,rfl⟩:=rx; exact SeqAt.EqAt.none_str b t
  | _=>exact absurd (show false=true from fx) Vae
 | bl a=>
  cases ry;cases x with
  | non=>cases rx; exact SeqAt.EqAt.bool_none a
  | bl b=>cases rx; exact SeqAt.EqAt.bool_bool a b
  | int b=>obtain⟨t,rfl⟩:=rx; exact SeqAt.EqAt.bool_int a b t
  | str b=>obtain⟨t,rfl⟩:=rx; exact SeqAt.EqAt.bool_str a b t
  | _=>exact absurd (show false=true from fx) Vae
 | int a=>
  obtain⟨t',rfl⟩:=ry;cases x with
  | non=>cases rx; exact SeqAt.EqAt.int_none a t'
  | bl b=>cases rx; exact SeqAt.EqAt.int_bool a t' b
  | int b=>obtain⟨t,rfl⟩:=rx; exact SeqAt.EqAt.int_int a t' b t
  | str b=>obtain⟨t,rfl⟩:=rx; exact SeqAt.EqAt.int_str a t' b t
  | _=>exact absurd (show false=true from fx) Vae
 | str a=>
  obtain⟨t',rfl⟩:=ry;cases x with
  | non=>cases rx; exact SeqAt.EqAt.str_none a t'
  | bl b=>cases rx; exact SeqAt.EqAt.str_bool a t' b
  | int b=>obtain⟨t,rfl⟩:=rx; exact SeqAt.EqAt.str_int a t' b t
  | str b=>obtain⟨t,rfl⟩:=rx; exact SeqAt.EqAt.str_str a t' b t
  | _=>exact absurd (show false=true from fx) Vae
 | _=>exact absurd (show false=true from fy) Vae
theorem zho:zaQ X (.builtin "len") (λxs H Q=>∃p ys,xs=[.ref p]∧(SqL X.K H p ys∨SqT X.K H p ys)∧Q (.int ys.length) H):=by
 intro pins s σ H xs us Q I r h;obtain⟨p,ys,rfl,hq,q⟩:=h;obtain⟨u,rfl,rx⟩:=zdm r;cases rx;have hn:=zdy;rcases hq with hq | hq
 ·obtain⟨its,r',pl,hz⟩:=I.list hq;have hlen:=r'.length;exact Calls.call_len_list pl.isList (by simp only[Vaj] <;> omega) ⟨.int ys.length,H,I.tok _,⟨s.toks+1,by rw[Vaj,hlen]⟩,q⟩
 ·obtain⟨its,r',pl,hz⟩:=I.tuple hq;have hlen:=r'.length;exact len_tuple pl (by simp only[Vaj] <;> omega) ⟨.int ys.length,H,I.tok _,⟨s.toks+1,by rw[Vaj,hlen]⟩,q⟩
theorem zaQ.or {f:Value}{r r':List V→Hp→VK→Prop}(h:zaQ X f r)(h':zaQ X f r'):zaQ X f (λxs H Q=>r xs H Q∨r' xs H Q):=by
 intro pins s σ H xs us Q I rs q;rcases q with q | q
 ·exact h pins s σ H xs us Q I rs q
 ·exact h' pins s σ H xs us Q I rs q
def tyV (K:PySem.W.Frag)(T:String)(x:V)(H:Hp):Prop:=match x with
 | .str _=>T="str"
 | .int _=>T="int"
 | .ref p=>(T="list"∧∃xs,SqL K H p xs)∨(T="tuple"∧∃o,K.lookup p=some o∧o.cls=.type "tuple"∧o.dict=none)∨
   (T="dict"∧((∃kvs,H p=some (.dK kvs))∨∃kvs,H p=some (.dT kvs)))∨(T="set"∧∃S n,H p=some (.set S n))
 | _=>False
theorem zi5 {pins:List (Addr×Obj)}{σ:St}{H:Hp}{s:Shared}{T:String}{x:V}{v:Value}(I:Inv X pins σ H s)(r:zab x v)(ty:tyV X.K T x H):
  s.TypeIs v T∧∀a,v=.ref a→∃ob,s.heap.get? a=some ob∧ob.dict=none:=by
 cases x with
 | str z=>
  obtain⟨t,rfl⟩:=r;cases (show T="str" from ty);exact⟨typeIs_str s z t,λ_ e=>nomatch e⟩
 | int i=>
  obtain⟨t,rfl⟩:=r;cases (show T="int" from ty);exact⟨typeIs_int s i t,λ_ e=>nomatch e⟩
 | ref p=>
  cases r;rcases ty with ⟨rfl,xs,hq⟩ | ⟨rfl,o,hk,hc,hd⟩ | ⟨rfl,hk⟩ | ⟨rfl,S,n,hk⟩
  ·obtain⟨its,_,pl,_⟩:=I.list hq;refine⟨pl.isList.typeIs,λa e=>?_⟩;cases e;obtain⟨o,n,e,c,hd,_⟩:=pl;exact⟨o,e,hd⟩
  ·refine⟨⟨o,I.kIn p o hk,hc⟩,λa e=>?_⟩;cases e;exact⟨o,I.kIn _ o hk,hd⟩
  ·have z:∃o,s.heap.get? p=some o∧o.ExactDict:=by
    rcases hk with ⟨kvs,hk⟩ | ⟨kvs,hk⟩
    ·obtain⟨_,_,_,_,o,_,_,e,ex,_⟩:=I.hok p _ hk;exact⟨o,e,ex⟩
    ·obtain⟨_,_,_,_,o,_,_,e,ex,_⟩:=I.hok p _ hk;exact⟨o,e,ex⟩
   obtain⟨o,e,ex⟩:=z;refine⟨⟨o,e,ex.1⟩,λa e2=>?_⟩;cases e2;exact⟨o,e,ex.2.1⟩
  ·obtain⟨o,_,_,_,e,ex,_⟩:=I.hok p _ hk;refine⟨⟨o,e,ex.1⟩,λa e2=>?_⟩;cases e2;exact⟨o,e,ex.2.1⟩
 | _=>exact False.elim ty
def tBM (K:PySem.W.Frag)(T:String)(r:V→List V→Hp→VK→Prop)(to:TE)(t:TA):TE:=λσ H Q=>to σ H λx H1=>tyV K T x H1∧t σ H1 λxs H2=>r x xs H2 Q
variable {o e:Expr}{es:List Expr}{to:TE}{t:TA}{name:Str}{apos cpos:Pos}{T id:String}{r:V→List V→Hp→VK→Prop}
theorem zgs (pa:PlainAttrs T)(slot:Slot T name id)(hty:typeOf (.builtin id)=pure (.type "method_descriptor"))(hm:MtR X id r)(ho:PE X o to)(ha:PA X (e::es) t)
  (hbase:attributeBase o name X.env (eval o X.env)=eval o X.env:=by rfl)
  (hfew:((backTo cpos (starEach (e::es) X.env)).all (λx=>!x.1)&&(backToKw cpos (keywordEach [] X.env)).all (λx=>x.1.isSome)
  &&decide ((e::es).length+([]:List Keyword).length+(if ([]:List Keyword).isEmpty then 0 else 1)<30))=true:=by rfl)
  (hline:(apos.endLine==cpos.line)=true:=by rfl)(hs:starEach (e::es) X.env=(false,eval e X.env)::starEach es X.env:=by rfl)(hplain:(backTo cpos (starEach es X.env)).any (·.1)=false:=by rfl):
  PE X (.Call (.Attribute o name apos) (e::es) [] cpos) (tBM X.K T r to t):=by
 intro pins s σ H Q I h;refine wpAny_Call_method_late hbase hfew hline rfl (thn (ho pins s σ H _ I h) λv s1 ⟨x,H1,I1,r1,ty,q1⟩=>?_);obtain⟨h1,h2⟩:=zi5 I1 r1 ty;refine⟨T,id,pa,slot,hty,h1,h2,?_⟩;have hA:=ha cpos pins s1 σ H1 _ I1 q1;rw[hs] at hA ⊢;refine Calls.callWith_builtin (by show (false||(backTo cpos (starEach es X.env)).any (·.1))=false; rw[hplain] <;> rfl) (Calls.evalArgs_plain ?_);exact thn hA λus s2 ⟨vs,H2,I2,r2,q2⟩=>hm pins s2 σ H2 x vs v us Q I2 r1 r2 q2
end
end L2
namespace L2
open PySem PySem.Spec PyProof.Rows
def MtM (X:Cx)(id:String)(r:V→List V→Hp→VK→Prop):Prop:=
 ∀(pins:List (Addr×Obj)) (s:Shared) (σ:St) (H:Hp) (x:V) (xs:List V) (v:Value) (us:List Value) (Q:VK),Inv X pins σ H s→zab x v→zac xs us→r x xs H Q→
  wpAny (model X.prog X.w) X.A (call (.builtin id) (v::us)) (EP X pins σ Q) X.xe s
theorem zac.one:∀ {x:V} {us:List Value},zac [x] us→∃u,us=[u]∧zab x u
 | _,_,.cons r .nil=>⟨_,rfl,r⟩
theorem zac.two:∀ {x y:V} {us:List Value},zac [x,y] us→∃u v,us=[u,v]∧zab x u∧zab y v
 | _,_,_,.cons r (.cons q .nil)=>⟨_,_,rfl,r,q⟩
theorem zac.zero:∀ {us:List Value},zac [] us→us=[]
 | _,.nil=>rfl
section
variable {X:Cx}{pins:List (Addr×Obj)}{σ:St}{H:Hp}{s:Shared}{l b:Addr}{xs ys zs:List V}
theorem Inv.lset {its its':List Value}{n:Nat}{f:Array Value→Array Value}{t':Nat}(I:Inv X pins σ H s)(hH:H l=some (.lst xs))
  (e:s.heap.get? l=some { cls:=.type "list",data:=.seq its.toArray n })(hf:f its.toArray=its'.toArray)(hv:zac ys its')(hz:ys.length≤sizeLine):
  Inv X pins σ (upd H l (.lst ys)) { s with heap:=s.heap.update l (Obj.mapSeq f),toks:=t' }:=by
 have q:=PySem.IsL.update e f;rw[hf] at q;refine I.write (x:=l) (e:=l) (by rw[hH]; exact trivial) (.inl rfl) (λb' u hb hu=>(Heap.get?_update_other s.heap (Obj.mapSeq f) (Ne.symm hb)).trans hu) ⟨_,q⟩ ?_;exact⟨hz,its',_,hv,q⟩
theorem Inv.fresh (I:Inv X pins σ H s):H s.heap.objs.size=none:=I.hok.fresh (Vac _)
theorem Inv.lstM (I:Inv X pins σ H s)(hH:H l=some (.lst xs)):xs.length≤sizeLine∧∃(its:List Value) (n:Nat),zac xs its∧xs.length=its.length∧s.heap.get? l=some { cls:=.type "list",data:=.seq its.toArray n }:=by
 obtain⟨z,its,n,r,e⟩:=I.hok l _ hH;exact⟨z,its,n,r,r.length,e⟩
end
section
variable {X:Cx}
def zg7:V→List V→Hp→VK→Prop:=λx vs H Q=>∃l xs y,x=.ref l∧vs=[y]∧H l=some (.lst xs)∧xs.length<sizeLine∧Q .non (upd H l (.lst (xs++[y])))
theorem zfM:MtM X "list.append" zg7:=by
 intro pins s σ H x vs v us Q I rx rv h;obtain⟨l,xs,y,rfl,rfl,hH,hz,q⟩:=h;cases rx;obtain⟨u,rfl,ru⟩:=rv.one;obtain⟨z,its,n,r,hl,e⟩:=I.lstM hH;refine call_meets F.slot_list_append ⟨_,e,rfl⟩ F.entry_list_append (F.args_list_append_2 _ _) (PySem.list_append l its.toArray n u (by rw[Vaj]; omega)) ⟨e,?_⟩;refine⟨.non,_,I.lset (its':=its++[u]) hH e (by simp) (r.append (.cons ru .nil)) ?_,rfl,q⟩;rw[VaB,List.length_singleton];omega
end
section
variable {prog:Program}{w:World}{A:Around}{E:Value→Shared→Prop}{s:Shared}
set_option maxRecDepth 100000 in
end
section
variable {X:Cx}
end
end L2
namespace Att
open PySem PySem.W PySem.Calls PyProof.Rows
theorem zi8 {P:Params}{h:Heap}:∀(ns:List Int) (vs:List Value),WellAll P h vs (ns.map WData.int)→IntsAre vs ns:=by
 intro ns
 induction ns with
 | nil=>
  intro vs w;rw[VaT] at w;cases w;exact .nil
 | cons n ns ih=>
  intro vs w;rw[Vaf] at w;cases w with
  | cons a b=>
   cases a;exact .cons _ _ (ih _ b)
theorem ziV {l:OpenLaw}{n:Nat}(hn:l.most=some n){P:Params}{h:Heap}{args:List WData}{vals:List Value}
  (hpre:l.row.toRowW.claim.pre args=true)(hwl:WellAll P h vals args):
  ∃a vs ns,vals=[Value.ref a]∧args=[WData.list (ns.map WData.int)]∧h.get? a=some { cls:=.type "list",data:=.seq vs.toArray }∧IntsAre vs ns∧ns.length≤n:=by
 have hsh:WShape.hasAll [] args [.list .int]=true:=(pre_splitW hpre).1
 have hc:l.pre.holds [] { args:=args }=true:=(pre_splitW hpre).2;obtain⟨d,r,rfl,h1,h2⟩:=hasAllW_cons hsh;obtain rfl:=hasAllW_nil h2;obtain⟨xs,rfl,h3⟩:=hasW_list h1;obtain⟨ns,rfl⟩:=items_int h3;have hlen:ns.length≤n:=by
  unfold OpenLaw.pre at hc;have h4:(WTm.not (.lt (.lit (.int (n:Int))) (.len (.arg 0)))).holds [] { args:=[.list (ns.map .int)] }=true:=by
   have h4:=(holds_andW hc).1;rw[hn] at h4;exact h4
  have h5:=condW_of h4 (w_not (w_lt w_lit (w_len_list (w_arg rfl))));rw[VaH] at h5;refine Nat.le_of_not_lt λq=>?_
  have q':(n:Int)<((ns.length:Nat):Int):=by omega
  first
   | (rw[decide_eq_true q'] at h5; exact absurd h5 (by decide))
   | (simp at h5; omega)
 cases hwl with
 | cons w1 w2=>
  cases w2;cases w1 with
  | list ho hall=>exact⟨_,_,ns,rfl,rfl,ho,zi8 ns _ hall,hlen⟩
theorem zjc (l:OpenLaw)(args:List WData):l.row.toRowW.claim.post args (.bool true) args=true:=
 postW_of (r:=l.row.toRowW) (X:=(true==true))
  (show WShape.has [] (.bool true) .bool=true by first | rfl | decide | simp[WShape.has,WShape.arms,WShape.armsAll])
  (show (WTm.eq .res (.lit (.bool true))).value [] { args:=args,res:=some (.bool true),after:=args }=some (.bool (true==true)) from w_eq_bool (w_res rfl) w_lit) rfl
theorem attach_call {l:OpenLaw}{n:Nat}{q:Program}{loose:List Str}{XP:(Str→Option Value)→Heap→Prop}{YP:World→Heap→Prop}{d:DefRec}
  (hn:l.most=some n)(hdf:d.params.defaults=[])
  (call:∀(w:World) (s₀ s₁:Shared) (mg mb:Str→Option Value) (fa:Addr) (o:Obj) (pm cd doc:Value) (a:Addr) (vs:List Value) (ns:List Int),
   Ground q loose [] XP w s₀ mg mb s₁.heap→YP w s₁.heap→
   s₁.heap.get? fa=some o→o.data=.func (docDef d.name d.params d.body d.scope pm cd doc)→s₁.heap.CodeRec cd d.name→mg d.name=some (.ref fa)→
   s₁.heap.get? a=some { cls:=.type "list",data:=.seq vs.toArray }→IntsAre vs ns→ns.length≤n→s₁.gens=#[]→
   codeAny (model l.prog w) callerA (.call (.ref fa) ⟨[.ref a],[]⟩) (λr s'=>r=.ok (.ret (.bool true))∧OldK s₁.heap s'.heap∧s'.os=s₁.os∧AllBare s'.gens) s₁):
  WalkO q loose XP YP l.row.toRowW d [] (λf vs=>PySem.call f vs):=by
 intro w s₀ s₁ mg mb G Y fa o pm cd doc dV kV ho hd hcd hD hmg hg args vals as hpre hlay hrd hwl hlo;obtain rfl:dV=.none:=Dflts.none hD hdf;obtain rfl:kV=.none:=Dflts.noKw hD;obtain⟨a,vs,ns,rfl,rfl,hobj,hints,hlen⟩:=ziV hn hpre hwl;refine enter_call (codeAny_mono (call w s₀ s₁ mg mb fa o pm cd doc a vs ns G Y ho (fd_plain hd) hcd hmg hobj hints hlen hg) λr s' hq=>?_);obtain⟨rfl,h2,h3,h4⟩:=hq;exact⟨.inl ⟨.bool true,.bool true,[],rfl,λ_=>rfl,.bool true,zjc l _,λ_=>⟨List.Pairwise.nil,λ_ hm=>(nomatch hm)⟩⟩,h2,h3,h4⟩
section
variable {prog:Program}{w:World}{A:Around}{E:Value→Shared→Prop}{s:Shared}{K:Frag}
def ledger (h:Heap)(L d:Addr):List (Addr×Obj):=(List.range h.objs.size).filterMap λa=>if a=L∨a=d then none else (h.get? a).map λo=>(a,o)
end
end Att
namespace L2
open PySem PySem.Spec PyProof.Rows
theorem zdh:∀ {vs:List Value} {ns:List Int},IntsAre vs ns→zac (ns.map V.int) vs
 | _,_,.nil=>.nil
 | _,_,.cons n t h=>.cons ⟨t,rfl⟩ (zdh h)
def zck (H:Hp):Prop:=∀b,H b=none∨∃o xs,H b=some (.frz o (.lst xs))
theorem zg1 {P:Program}{w:World}{K:PySem.W.Frag}{mg mb:Str→Option Value}{CX:CXT}{k:Nat}{fa a:Addr}{fd:FuncData}{x:Str}{sp:Sp}{s₁:Shared}{vs:List Value}{ns:List Int}
  (KX:K.In s₁.heap)(hns:s₁.heap.Ns mainGlobals mg)(hb:s₁.heap.Ns builtinsNs mb)(hbb:∀x:Str,x≠"__name__"→mb x=bootBuiltins x)(hlim:s₁.heap.NoLimit)(hg:s₁.gens=#[])
  (ha:s₁.heap.get? a=some { cls:=.type "list",data:=.seq vs.toArray })(hi:IntsAre vs ns)(hl:ns.length≤sizeLine)(hr:zan k callerA)
  (F:∀base:Heap,K.In base→base.Ns mainGlobals mg→zas P w K mg base CX k fa fd [x] sp)(hbind:∀(s:Shared) (u:Value),BindsTo s fd ⟨[u],[]⟩ [(x,u)])
  (hsp:∀H:Hp,zck H→SqL K H a (ns.map V.int)→sp [.ref a] H (λv _=>v=.bl true) λ_ _ _=>False)
  (hCX:∀H e s',CX [] H s₁ (λ_ _ _=>False) e s'→False):
  codeAny (model P w) callerA (.call (.ref fa) ⟨[.ref a],[]⟩) (λr s'=>r=.ok (.ret (.bool true))∧OldK s₁.heap s'.heap∧s'.os=s₁.os∧AllBare s'.gens) s₁:=by
 have rv:=zdh hi
 have lenV:=hi.length
 have core:∀H:Hp,zck H→SqL K H a (ns.map V.int)→HOk P w H s₁.heap→(∀b,H b≠none→b=a)→(H a≠none→K.lookup a=none)→
   codeAny (model P w) callerA (.call (.ref fa) ⟨[.ref a],[]⟩) (λr s'=>r=.ok (.ret (.bool true))∧OldK s₁.heap s'.heap∧s'.os=s₁.os∧AllBare s'.gens) s₁:=by
  intro H hO hS hok hA hK;have base_of:∀ {b:Addr} {o:Obj},s₁.heap.get? b=some o→H b=none→(zbi s₁.heap H).get? b=some o:=λe n=>zh1 e n
  have noA:∀ {b:Addr} {o:Obj} {es:Array DictEntry} {ep:Nat},s₁.heap.get? b=some o→o.data=.dict es ep→H b=none:=λ{b o es ep} e d=>by
   cases q:H b with
   | none=>rfl
   | some u=>
    have e':b=a:=hA b (by rw[q]; simp);subst e';rw[ha] at e; cases e
    have d':Data.seq vs.toArray _=Data.dict es ep:=d;cases d'
  have nsK:∀ {b:Addr} {m:Str→Option Value},s₁.heap.Ns b m→(zbi s₁.heap H).Ns b m:=λ{b m} ⟨o,es,ep,e,d,r⟩=>⟨o,es,ep,base_of e (noA e d),d,r⟩
  have hKb:K.In (zbi s₁.heap H):=λb o e=>base_of (KX b o e) (by
   cases q:H b with
   | none=>rfl
   | some u=>
    have e':b=a:=hA b (by rw[q]; simp);subst e';rw[hK (by rw[q]; simp)] at e; cases e)
  have hM:Mod K mg (zbi s₁.heap H):=⟨hKb,nsK hns,⟨mb,nsK hb,hbb⟩,let ⟨mc,h1,h2⟩:=hlim; ⟨mc,nsK h1,h2⟩⟩
  have e0:zaY P w K mg (zbi s₁.heap H) callerA [] s₁ H:=⟨rfl,hM,λb o e=>zhr e,Nat.le_of_eq (zgT _ _),trivial,λb hb=>absurd (show b∈([]:List Addr) from hb) (by simp),hok,.of_eq hg⟩;refine codeAny_mono ((F _ hKb (nsK hns)).run callerA [] s₁ H ⟨[.ref a],[]⟩ [.ref a] [.ref a] _ _ hr e0 (hbind s₁ (.ref a)) (.cons rfl .nil) (hsp H hO hS)) λr s' h=>?_
  cases r with
  | error e=>exact(hCX H e s' h).elim
  | ok fl=>
   cases fl with
   | next=>exact False.elim h
   | brk=>exact False.elim h
   | cont=>exact False.elim h
   | ret u=>
    obtain⟨v,H',os,bare,un,hok',r',q⟩:=h;have q':v=.bl true:=q;subst q';obtain rfl:u=Value.bool true:=r';refine⟨rfl,OldK.of_keep λb o e=>?_,os,bare⟩;cases q:H b with
    | none=>exact un.keep b o e q (by intro z; exact absurd (show b∈([]:List Addr) from z) (by simp)) (by simp)
    | some u=>
     rcases hO b with z | ⟨ob,xs,z⟩
     ·rw[q] at z; cases z
     ·have z2:=un.frzs b ob _ z;obtain⟨e1,_⟩:=hok b _ z;obtain⟨e2,_⟩:=hok' b _ z2;rw[e] at e1; cases e1
      exact e2
 cases hk:K.lookup a with
 | some o=>
  have e:=KX a o hk;rw[ha] at e;cases e;refine core (λ_=>none) (λ_=>.inl rfl) (.inr ⟨_,vs.toArray,_,hk,rfl,rfl,rfl,by rw[Vaj,lenV]; exact hl,by simpa using rv⟩) (λb u z=>by have z':(none:Option HO)=some u:=z; cases z') (λb z=>absurd rfl z) λz=>absurd rfl z
 | none=>
  refine core (λb=>if b=a then some (.frz { cls:=.type "list",data:=.seq vs.toArray } (.lst (ns.map V.int))) else none) (λb=>?_) (.inl (.inr ⟨{ cls:=.type "list",data:=.seq vs.toArray },if_pos rfl⟩)) (λb u z=>?_) (λb z=>?_) λ_=>hk
  ·by_cases hb:b=a
   ·exact .inr ⟨_,_,if_pos hb⟩
   ·exact .inl (if_neg hb)
  ·by_cases hb:b=a
   ·have z':=(if_pos hb).symm.trans z;cases z';subst hb;exact⟨ha,by rw[VaH]; exact hl,vs,_,rv,ha⟩
   ·have z':=(if_neg hb).symm.trans z;cases z'
  ·by_cases hb:b=a
   ·exact hb
   ·exact absurd (if_neg hb) z
end L2
namespace L2
open PySem PySem.Spec PyProof.Rows
theorem zgR {l:PySem.W.OpenLaw}{n k:Nat}{q:Program}{loose:List Str}{XP:(Str→Option Value)→Heap→Prop}{YP:World→Heap→Prop}{d:DefRec}{K:Params→PySem.W.Frag}{CX:World→CXT}{sp:World→Sp}{x:Str}
  (hn:l.most=some n)(hn2:n≤sizeLine)(hdf:d.params.defaults=[])(hr:zan k callerA)
  (hY:∀(w:World) (h:Heap),YP w h→(K w.params).In h)
  (F:∀(w:World) (mg:Str→Option Value) (fa:Addr) (h:Heap),(K w.params).In h→h.Ns mainGlobals mg→mg d.name=some (.ref fa)→
   ∃fd:FuncData,(∀(s:Shared) (u:Value),BindsTo s fd ⟨[u],[]⟩ [(x,u)])∧
    ∀base:Heap,(K w.params).In base→base.Ns mainGlobals mg→zas l.prog w (K w.params) mg base (CX w) k fa fd [x] (sp w))
  (hsp:∀(w:World) (H:Hp) (a:Addr) (ns:List Int),ns.length≤n→zck H→SqL (K w.params) H a (ns.map V.int)→sp w [.ref a] H (λv _=>v=.bl true) λ_ _ _=>False)
  (hCX:∀(w:World) (H:Hp) (s:Shared) (e:Value) (s':Shared),CX w [] H s (λ_ _ _=>False) e s'→False):
  PySem.W.WalkO q loose XP YP l.row.toRowW d [] (λf vs=>PySem.call f vs):=by
 refine Att.attach_call hn hdf λw s₀ s₁ mg mb fa o pm cd doc a vs ns G Y ho hd hcd hmg hobj hints hlen hg=>?_
 have KX:=hY w _ Y;obtain⟨fd,hb,hF⟩:=F w mg fa _ KX G.T.g hmg;exact zg1 KX G.T.g G.T.b G.T.builtins G.T.nolimit hg hobj hints (Vam hlen hn2) hr hF hb (λH hO hS=>hsp w H a ns hlen hO hS) λH e s'=>hCX w H s₁ e s'
end L2
namespace L2
open PySem PySem.Spec PyProof.Rows
abbrev CX0:CXT:=λ_ _ _ _ _ _=>False
structure Fun (K:PySem.W.Frag)(x qual:Str)(st:Stmt)(f:Addr)(fd:FuncData):Prop where
 ex:∃(oc:Value) (od:Option Addr) (kV doc pm:Value) (an:Option Addr) (cdv ct:Value) (osl:Array (Option Value)),
  fd=PySem.W.fnOf x qual (zbO st) (zaW st) (zak st) .none kV doc pm an cdv ct∧K.lookup f=some ⟨oc,od,.func fd,osl⟩∧PySem.W.codeIn K cdv qual=true
 kp:PySem.W.keepIn K (.ref f)=true
section
variable {P:Program}{w:World}{K:PySem.W.Frag}{mg:Str→Option Value}{base:Heap}
theorem Fun.ok {x qual:Str}{st:Stmt}{f:Addr}{fd:FuncData}{N ps:List Str}{k:Nat}{sp:Sp}(F:Fun K x qual st f fd)(S:zau N ps (zak st))(len:∀vs H Q E,sp vs H Q E→vs.length=ps.length)
  (hbody:∀(cdv:Value) (A:Around) (outer:List Env) (s:Shared) (H:Hp) (vs:List V) (Q:VK) (E:XK),zan k (A.deeper (envOfC qual (zak st) s.heap.objs.size f cdv))→sp vs H Q E→
   ∃t,PSs (zat CX0 P w K mg base N qual (zak st) f cdv A outer s H E).nox (zaW st) t∧t { nx:=λ_ H'=>Q .non H',rt:=Q } (zaP N vs) H):zas P w K mg base CX0 (k+1) f fd ps sp:=by
 obtain⟨oc,od,kV,doc,pm,an,cdv,ct,osl,rfl,lk,hcd⟩:=F.ex;refine zc8 lk hcd S len λA outer s H vs Q E hr hsp=>?_
 obtain⟨t,h,q⟩:=hbody cdv A outer s H vs Q E hr hsp;exact⟨t,h.nox,q⟩
theorem Fun.binds {x qual:Str}{st:Stmt}{f:Addr}{fd:FuncData}{ps:List Str}(F:Fun K x qual st f fd)
  (h:∀(kV doc pm:Value) (an:Option Addr) (cdv ct:Value) (us:List Value),us.length=ps.length→bindArgs (PySem.W.fnOf x qual (zbO st) (zaW st) (zak st) .none kV doc pm an cdv ct) ⟨us,[]⟩=pure (ps.zip us)):zaD K fd ps []:=by
 obtain⟨oc,od,kV,doc,pm,an,cdv,ct,osl,rfl,lk,hcd⟩:=F.ex;exact .all (h kV doc pm an cdv ct)
theorem zdK {x qual:Str}{st:Stmt}{f:Addr}{oc:Value}{od an:Option Addr}{osl:Array (Option Value)}{kV doc pm cdv ct:Value}(l:K.lookup f=some ⟨oc,od,.func (PySem.W.fnOf x qual (zbO st) (zaW st) (zak st) .none kV doc pm an cdv ct),osl⟩)
  (c:PySem.W.codeIn K cdv qual=true)(k:PySem.W.keepIn K (.ref f)=true):Fun K x qual st f (PySem.W.fnOf x qual (zbO st) (zaW st) (zak st) .none kV doc pm an cdv ct):=⟨⟨oc,od,kV,doc,pm,an,cdv,ct,osl,rfl,l,c⟩,k⟩
end
theorem zek {n:Nat}(h:n≤1000):n<sizeLine:=Va3 h (by decide)
section
variable {X:Cx}
theorem pv (i:Nat){x:Str}{pos:Pos}(hN:X.N[i]?=some x:=by rfl)(hv:Vis X.env.scope x:=by first | exact Or.inl rfl | exact Or.inr (Or.inl rfl) | exact Or.inr (Or.inr rfl))(hd:(x==("__debug__":Str))=false:=by decide)
  (hcd:(x==("__classdict__":Str))=false:=by decide):PE X (.Name x pos) (tVar i):=zc4 hN hv hd hcd
end
theorem zbM {A B:Prop}(h:B):if false=true then A else B:=by
 rw[if_neg Vae];exact h
theorem zbY {A B:Prop}(h:A):if true=true then A else B:=by
 rw[if_pos rfl];exact h
theorem ite2 {c A B:Prop} [Decidable c] (h1:c→A)(h2:¬ c→B):if c then A else B:=by
 by_cases h:c
 ·rw[if_pos h];exact h1 h
 ·rw[if_neg h];exact h2 h
def zbd (H H':Hp):Prop:=∀b o,H b=some o→H' b=some o
theorem zbd.refl (H:Hp):zbd H H:=λ_ _ h=>h
theorem zbd.trans {H H1 H2:Hp}(a:zbd H H1)(b:zbd H1 H2):zbd H H2:=λc o h=>b c o (a c o h)
theorem zbd.free {H H':Hp}(e:zbd H H'){l:Addr}(h:H' l=Option.none):H l=Option.none:=by
 cases q:H l with
 | none=>rfl
 | some o=>
  rw[e l o q] at h;cases h
theorem zbd.seq {K:PySem.W.Frag}{H H':Hp}{a:Addr}{xs:List V}(e:zbd H H')(h:SqL K H a xs):SqL K H' a xs:=by
 rcases h with (h | ⟨o,h⟩) | h
 ·exact .inl (.inl (e _ _ h))
 ·exact .inl (.inr ⟨o,e _ _ h⟩)
 ·exact .inr h
end L2
namespace L2
open PySem PySem.Spec PyProof.Rows
section
variable {κ:Type} [DecidableEq κ]
def zaN (kvs:List (κ×V))(k:κ):Option V:=(kvs.find? λkv=>decide (kv.1=k)).map (·.2)
def putK (kvs:List (κ×V))(k:κ)(v:V):List (κ×V):=
 if (kvs.any λkv=>decide (kv.1=k))=true then kvs.map (λkv=>if kv.1=k then (kv.1,v) else kv) else kvs++[(k,v)]
def zgE (kvs:List (κ×V))(k:κ):List (κ×V):=kvs.filter λkv=>decide (kv.1≠k)
theorem zd3 {p:κ×V}{r:List (κ×V)}{k:κ}(e:p.1=k):zaN (p::r) k=some p.2:=by simp[zaN,Vas,e]
theorem zdW {p:κ×V}{r:List (κ×V)}{k:κ}(e:¬ p.1=k):zaN (p::r) k=zaN r k:=by simp[zaN,Vas,e]
theorem zfI (k:κ):∀kvs:List (κ×V),(kvs.any λkv=>decide (kv.1=k))=(zaN kvs k).isSome
 | []=>rfl
 | p::r=>by
  rw[VaC];by_cases e:p.1=k
  ·simp only[zd3 e,decide_eq_true e,Bool.true_or,Option.isSome_some]
  ·rw[zdW e,decide_eq_false e,Bool.false_or]; exact zfI k r
theorem zbh.isSome_eq {o:Option V}{u:Option Value}(r:zbh o u):o.isSome=u.isSome:=by
 cases o with
 | none=>cases u with
  | none=>rfl
  | some _=>exact(show False from r).elim
 | some _=>cases u with
  | none=>exact(show False from r).elim
  | some _=>rfl
theorem zbh.getD {o:Option V}{u:Option Value}{d:V}{d':Value}(r:zbh o u)(rd:zab d d'):zab (o.getD d) (u.getD d'):=by
 cases o with
 | none=>cases u with
  | none=>exact rd
  | some _=>exact(show False from r).elim
 | some _=>cases u with
  | none=>exact(show False from r).elim
  | some _=>exact r
theorem KV.val {kvs:List (κ×V)}{vs:List (κ×Value)}(r:KV kvs vs)(k:κ):zbh (zaN kvs k) (valueAt vs k):=by
 unfold KV at r
 induction r with
 | nil=>exact True.intro
 | @cons p q ps qs h t ih=>
  obtain⟨h1,h2⟩:=h;by_cases e:p.1=k
  ·have e':q.1=k:=h1.symm.trans e
   have b:valueAt (q::qs) k=some q.2:=by simp[valueAt,Vas,e']
   rw[zd3 e,b]; exact h2
  ·have e':¬ q.1=k:=λz=>e (h1.trans z)
   have b:valueAt (q::qs) k=valueAt qs k:=by simp[valueAt,Vas,e']
   rw[zdW e,b]; exact ih
theorem KV.any {kvs:List (κ×V)}{vs:List (κ×Value)}(r:KV kvs vs)(k:κ):(kvs.any λkv=>decide (kv.1=k))=vs.any λkv=>decide (kv.1=k):=by
 unfold KV at r
 induction r with
 | nil=>rfl
 | cons h t ih=>rw[VaC,VaC,ih,h.1]
theorem KV.repl {kvs:List (κ×V)}{vs:List (κ×Value)}(r:KV kvs vs)(k:κ){y:V}{u:Value}(ry:zab y u):
  KV (kvs.map λkv=>if kv.1=k then (kv.1,y) else kv) (vs.map λkv=>if kv.1=k then (kv.1,u) else kv):=by
 unfold KV at r ⊢
 induction r with
 | nil=>exact .nil
 | @cons p q ps qs h t ih=>
  rw[Vaf,Vaf];refine .cons ?_ ih;obtain⟨h1,h2⟩:=h;by_cases e:p.1=k
  ·rw[if_pos e,if_pos (h1.symm.trans e)]; exact⟨h1,ry⟩
  ·rw[if_neg e,if_neg (λz=>e (h1.trans z))]; exact⟨h1,h2⟩
theorem KV.put {kvs:List (κ×V)}{vs:List (κ×Value)}(r:KV kvs vs)(k:κ){y:V}{u:Value}(ry:zab y u):KV (putK kvs k y) (stored vs k u):=by
 unfold putK stored;rw[r.any k];by_cases e:(vs.any λkv=>decide (kv.1=k))=true
 ·rw[if_pos e,if_pos e]; exact r.repl k ry
 ·rw[if_neg e,if_neg e]; exact Paired.snoc r ⟨rfl,ry⟩
theorem KV.drop {kvs:List (κ×V)}{vs:List (κ×Value)}(r:KV kvs vs)(k:κ):KV (zgE kvs k) (without vs k):=by
 unfold KV at r ⊢;unfold zgE without
 induction r with
 | nil=>exact .nil
 | @cons p q ps qs h t ih=>
  obtain⟨h1,h2⟩:=h;rw[Va4,Va4];by_cases e:p.1=k
  ·have a:¬ decide (p.1≠k)=true:=by simp[e]
   have b:¬ decide (q.1≠k)=true:=by simp[h1.symm.trans e]
   rw[if_neg a,if_neg b]; exact ih
  ·have e':¬ q.1=k:=λz=>e (h1.trans z)
   have a:decide (p.1≠k)=true:=by simp[e]
   have b:decide (q.1≠k)=true:=by simp[e']
   rw[if_pos a,if_pos b]; exact .cons ⟨h1,h2⟩ ih
theorem KV.keys {kvs:List (κ×V)}{vs:List (κ×Value)}(r:KV kvs vs):kvs.map (·.1)=vs.map (·.1):=by
 unfold KV at r
 induction r with
 | nil=>rfl
 | cons h t ih=>rw[Vaf,Vaf,ih,h.1]
theorem KV.length {kvs:List (κ×V)}{vs:List (κ×Value)}(r:KV kvs vs):kvs.length=vs.length:=Paired.length r
end
abbrev KT (H:Hp):List (List Key×V)→List (List Key×Addr×Value)→Prop:=Paired λp q=>p.1=q.1∧H q.2.1=some (.tup (p.1.map kV))∧zab p.2 q.2.2
theorem KT.val {H:Hp}{kvs:List (List Key×V)}{xs:List (List Key×Addr×Value)}(r:KT H kvs xs)(k:List Key):zbh (zaN kvs k) ((atKey xs k).map (·.2)):=by
 induction r with
 | nil=>exact True.intro
 | @cons p q ps qs h t ih=>
  obtain⟨h1,_,h2⟩:=h;by_cases e:p.1=k
  ·have e':q.1=k:=h1.symm.trans e
   have b:atKey (q::qs) k=some q.2:=by simp[atKey,Vas,e']
   rw[zd3 e,b]; exact h2
  ·have e':¬ q.1=k:=λz=>e (h1.trans z)
   have b:atKey (q::qs) k=atKey qs k:=by simp[atKey,Vas,e']
   rw[zdW e,b]; exact ih
theorem KT.repl {H:Hp}{kvs:List (List Key×V)}{xs:List (List Key×Addr×Value)}(r:KT H kvs xs)(k:List Key){y:V}{u:Value}(ry:zab y u):
  KT H (kvs.map λkv=>if kv.1=k then (kv.1,y) else kv) (xs.map (putAt k u)):=by
 induction r with
 | nil=>exact .nil
 | @cons p q ps qs h t ih=>
  rw[Vaf,Vaf];refine .cons ?_ ih;obtain⟨h1,h2,h3⟩:=h;unfold putAt;by_cases e:p.1=k
  ·rw[if_pos e,if_pos (h1.symm.trans e)]; exact⟨h1,h2,ry⟩
  ·rw[if_neg e,if_neg (λz=>e (h1.trans z))]; exact⟨h1,h2,h3⟩
theorem KT.put {H:Hp}{kvs:List (List Key×V)}{xs:List (List Key×Addr×Value)}(r:KT H kvs xs)(k:List Key){b:Addr}{y:V}{u:Value}(hb:H b=some (.tup (k.map kV)))(ry:zab y u):
  KT H (putK kvs k y) (storedH xs k b u):=by
 have e:(kvs.any λkv=>decide (kv.1=k))=(atKey xs k).isSome:=by
  rw[zfI,(r.val k).isSome_eq,Option.isSome_map]
 unfold putK storedH;rw[e];by_cases q:(atKey xs k).isSome=true
 ·rw[if_pos q,if_pos q]; exact r.repl k ry
 ·rw[if_neg q,if_neg q]; exact Paired.snoc r ⟨rfl,hb,ry⟩
theorem KT.keeps {H H':Hp}{kvs:List (List Key×V)}{xs:List (List Key×Addr×Value)}(r:KT H kvs xs)(ht:∀b ys,H b=some (.tup ys)→H' b=some (.tup ys)):KT H' kvs xs:=
 Paired.mapP r λ_ _ z=>⟨z.1,ht _ _ z.2.1,z.2.2⟩
section
variable {P:Program}{w:World}{H:Hp}{h:Heap}{a:Addr}
end
def zed (H:Hp)(a:Addr)(y:V)(r:Option V):Prop:=
 (∃kvs k,Rd H a (.dK kvs)∧y=kV k∧r=zaN kvs k)∨∃kvs k b,Rd H a (.dT kvs)∧y=.ref b∧H b=some (.tup (k.map kV))∧r=zaN kvs k
def zdV (H:Hp)(a:Addr)(y v:V)(H':Hp):Prop:=
 (∃kvs k,H a=some (.dK kvs)∧y=kV k∧kvs.length<sizeLine∧H'=upd H a (.dK (putK kvs k v)))∨
 ∃kvs k b,H a=some (.dT kvs)∧y=.ref b∧H b=some (.tup (k.map kV))∧kvs.length<sizeLine∧H'=upd H a (.dT (putK kvs k v))
theorem zed.k {H:Hp}{a:Addr}{kvs:List (Key×V)}{k:Key}(e:H a=some (.dK kvs)):zed H a (kV k) (zaN kvs k):=.inl ⟨kvs,k,.inl e,rfl,rfl⟩
theorem zed.t {H:Hp}{a b:Addr}{kvs:List (List Key×V)}{k:List Key}(e:H a=some (.dT kvs))(eb:H b=some (.tup (k.map kV))):zed H a (.ref b) (zaN kvs k):=.inr ⟨kvs,k,b,.inl e,rfl,eb,rfl⟩
theorem zdV.k {H:Hp}{a:Addr}{kvs:List (Key×V)}{k:Key}{v:V}(e:H a=some (.dK kvs))(hl:kvs.length<sizeLine):zdV H a (kV k) v (upd H a (.dK (putK kvs k v))):=.inl ⟨kvs,k,e,rfl,hl,rfl⟩
theorem zdV.t {H:Hp}{a b:Addr}{kvs:List (List Key×V)}{k:List Key}{v:V}(e:H a=some (.dT kvs))(eb:H b=some (.tup (k.map kV)))(hl:kvs.length<sizeLine):
  zdV H a (.ref b) v (upd H a (.dT (putK kvs k v))):=.inr ⟨kvs,k,b,e,rfl,eb,hl,rfl⟩
section
variable {X:Cx}{pins:List (Addr×Obj)}{σ:St}{H:Hp}{s:Shared}{a:Addr}{y v:V}{u r:Value}{o:Option V}{A:Around}{E:Value→Shared→Prop}
theorem Inv.big (I:Inv X pins σ H s):sysModules<s.heap.objs.size:=by
 have h:mainGlobals<s.heap.objs.size:=(I.mod.glob.keeps I.bk).lt;exact Nat.lt_trans (by decide) h
end
section
variable {X:Cx}{pins:List (Addr×Obj)}{σ:St}{H:Hp}{s:Shared}{a:Addr}{kvs:List (Key×V)}{k:Key}{u:Value}{A:Around}{E:Value→Shared→Prop}
end
section
variable {X:Cx}{o i e value:Expr}{pos pos' tpos:Pos}{td ty tv:TE}
end
section
variable {X:Cx}{pos:Pos}
end
structure M1 (X:Cx)(o:Expr)(m:Str)(apos:Pos)(e:Expr)(cpos:Pos):Prop where
 base:attributeBase o m X.env (eval o X.env)=eval o X.env
 few:((backTo cpos (starEach [e] X.env)).all (λx=>!x.1)&&(backToKw cpos (keywordEach [] X.env)).all (λx=>x.1.isSome)
 &&decide (([e]:List Expr).length+([]:List Keyword).length+(if ([]:List Keyword).isEmpty then 0 else 1)<30))=true
 line:(apos.endLine==cpos.line)=true
 trees:backTo cpos (starEach [e] X.env)=[(false,eval e X.env)]
structure M2 (X:Cx)(o:Expr)(m:Str)(apos:Pos)(e f:Expr)(cpos:Pos):Prop where
 base:attributeBase o m X.env (eval o X.env)=eval o X.env
 few:((backTo cpos (starEach [e,f] X.env)).all (λx=>!x.1)&&(backToKw cpos (keywordEach [] X.env)).all (λx=>x.1.isSome)
 &&decide (([e,f]:List Expr).length+([]:List Keyword).length+(if ([]:List Keyword).isEmpty then 0 else 1)<30))=true
 line:(apos.endLine==cpos.line)=true
 trees:backTo cpos (starEach [e,f] X.env)=[(false,eval e X.env),(false,eval f X.env)]
section
variable {X:Cx}{pins:List (Addr×Obj)}{σ:St}{H:Hp}{s:Shared}{a:Addr}{y d:V}{u r:Value}{o:Option V}{A:Around}{E:Value→Shared→Prop}
end
section
variable {X:Cx}{o e f:Expr}{apos cpos:Pos}{td ty tx:TE}
end
section
variable {X:Cx}{pins:List (Addr×Obj)}{σ:St}{H:Hp}{s:Shared}{a:Addr}{kvs:List (Key×V)}{A:Around}{E:Value→Shared→Prop}
end
section
variable {X:Cx}{pins:List (Addr×Obj)}{σ:St}{H:Hp}{s:Shared}{a:Addr}{y:V}{u:Value}{A:Around}{E:Value→Shared→Prop}
end
end L2
namespace L3
open PySem PySem.Spec PyProof.Rows L2
def two (o:Obj):Option Value:=match o.data with | .fields vs=>vs[2]? | _=>none
def K2 {α:Type}:Sem α→Prop
 | .pure _ | .raise _ | .unsupported _ | .finish _ | .register _ _ | .yield .. | .fork .. | .await ..=>True
 | .rule _ k | .at _ k | .point _ k=>K2 (k ())
 | .load _ _ k=>∀o,K2 (k o)
 | .update _ _ f k=>(∀o,two (f o)=two o∧(o.isFreed=false→(f o).isFreed=false))∧K2 (k ())
 | .alloc _ k=>∀a,K2 (k a)
 | .loadIfAlive _ k=>∀o,K2 (k o)
 | .fresh k=>∀t,K2 (k t)
 | .ask k=>∀x,K2 (k x)
 | .choose _ _ k=>∀x,K2 (k x)
 | .os _ _ k=>∀x,K2 (k x)
 | .call ..=>False
 | .handled _ k=>∀x,K2 (k x)
 | .newGen _ k=>∀x,K2 (k x)
 | .genState _ k=>∀x,K2 (k x)
 | .resume ..=>False
 | .stack k=>∀x,K2 (k x)
 | .thread k=>∀x,K2 (k x)
theorem K2.bind {α β:Type}{t:Sem α}{f:α→Sem β}(h:K2 t)(hf:∀a,K2 (f a)):K2 (t.bind f):=by
 induction t with
 | pure a=>exact hf a
 | raise | unsupported | finish | register | yield | fork | await=>trivial
 | rule _ k ih=>exact ih _ h
 | «at» _ k ih=>exact ih _ h
 | point _ k ih=>exact ih _ h
 | load _ _ k ih=>exact λo=>ih o (h o)
 | update _ _ g k ih=>exact⟨h.1,ih _ h.2⟩
 | alloc _ k ih=>exact λo=>ih o (h o)
 | loadIfAlive _ k ih=>exact λo=>ih o (h o)
 | fresh k ih=>exact λo=>ih o (h o)
 | ask k ih=>exact λo=>ih o (h o)
 | choose _ _ k ih=>exact λo=>ih o (h o)
 | os _ _ k ih=>exact λo=>ih o (h o)
 | call=>exact h.elim
 | handled _ k ih=>exact λo=>ih o (h o)
 | newGen _ k ih=>exact λo=>ih o (h o)
 | genState _ k ih=>exact λo=>ih o (h o)
 | resume=>exact h.elim
 | stack k ih=>exact λo=>ih o (h o)
 | thread k ih=>exact λo=>ih o (h o)
def Cx2 (h:Heap)(e:Addr)(v:Option Value):Prop:=∃o,h.get? e=some o∧two o=v
theorem Cx2.update {h:Heap}{e a:Addr}{v:Option Value}{f:Obj→Obj}(c:Cx2 h e v)(hf:∀o,two (f o)=two o∧(o.isFreed=false→(f o).isFreed=false)):Cx2 (h.update a f) e v:=by
 obtain⟨o,e1,e2⟩:=c;by_cases hb:a=e
 ·subst hb;have nf:o.isFreed=false:=(Heap.get?_some_iff.mp e1).2;exact⟨f o,Heap.get?_update_self f e1 ((hf o).2 nf),(hf o).1.trans e2⟩
 ·exact⟨o,(Heap.get?_update_other _ _ hb).trans e1,e2⟩
theorem zj3 {α:Type}{M:Model}{Γ:PySem.Ctx}{t:Sem α}{e:Addr}{v:Option Value}(h:K2 t):∀ {Q:α→Pos→Shared→Prop} {E:Value→Pos→Shared→Prop} {p:Pos} {s:Shared},Cx2 s.heap e v→Sem.wp M Γ t Q E p s→
  Sem.wp M Γ t (λa p s'=>Q a p s'∧Cx2 s'.heap e v) E p s:=by
 induction t with
 | pure a=>exact λc q=>⟨q,c⟩
 | raise=>exact λc q=>q
 | unsupported | finish | register | yield | fork | await=>exact λc q=>q.elim
 | rule _ k ih=>exact λc q=>ih _ h c q
 | «at» _ k ih=>exact λc q=>ih _ h c q
 | point _ k ih=>exact λc q=>ih _ h c q
 | load _ _ k ih=>exact λc ⟨o,ho,q⟩=>⟨o,ho,ih o (h o) c q⟩
 | update _ _ g k ih=>exact λc ⟨ha,q⟩=>⟨ha,ih _ h.2 (c.update h.1) q⟩
 | alloc o k ih=>exact λc q=>ih _ (h _) (let ⟨o,e1,e2⟩:=c; ⟨o,Heap.get?_push_of_some _ e1,e2⟩) q
 | loadIfAlive _ k ih=>exact λc q=>ih _ (h _) c q
 | fresh k ih=>exact λc q=>ih _ (h _) c q
 | ask k ih=>exact λc q=>ih _ (h _) c q
 | choose _ _ k ih=>exact λc ⟨hn,q⟩=>⟨hn,ih _ (h _) c q⟩
 | os _ _ k ih=>exact λc q=>ih _ (h _) c q
 | call=>exact h.elim
 | handled _ k ih=>exact λc q=>ih _ (h _) c q
 | newGen _ k ih=>exact λc q=>ih _ (h _) c q
 | genState _ k ih=>exact λc ⟨st,hg,q⟩=>⟨st,hg,ih _ (h _) c q⟩
 | resume=>exact h.elim
 | stack k ih=>exact λc q=>ih _ (h _) c q
 | thread k ih=>exact λc q=>ih _ (h _) c q
theorem zcm {α:Type}{M:Model}{A:Around}{t:Sem α}{e:Addr}{v:Option Value}{Q:α→Shared→Prop}{E:Value→Shared→Prop}{s:Shared}(h:K2 t)(c:Cx2 s.heap e v)(q:wpAny M A t Q E s):
  wpAny M A t (λa s'=>Q a s'∧Cx2 s'.heap e v) E s:=λΓ p hΓ=>zj3 h c (q Γ p hΓ)
theorem ziE {f:Array Value→Array Value}(h:∀vs,(f vs)[2]?=vs[2]?)(o:Obj):two (Obj.mapFields f o)=two o∧(o.isFreed=false→(Obj.mapFields f o).isFreed=false):=by
 cases o with
 | mk c d dt sl=>cases dt <;> simp[two,Obj.mapFields,Obj.isFreed,h]
theorem zdp (v:Value)(i:Nat):K2 (field v i):=by
 unfold field fieldsOf;cases v <;> refine K2.bind ?_ λvs=>?_
 all_goals first
  | (split <;> trivial)
  | trivial
  | (refine K2.bind (λo=>trivial) λo=>?_; split <;> trivial)
theorem zer (v:Value)(i:Nat)(x:Value)(hi:i≠2):K2 (setField v i x):=by
 unfold setField;cases v <;> first | trivial | skip
 unfold updateField;refine K2.bind (λo=>trivial) λo=>?_
 split
 ·split
  ·exact⟨ziE λvs=>Array.getElem?_setIfInBounds_ne hi,trivial⟩
  ·trivial
 ·trivial
theorem zes (e:Value)(f:Option Addr):K2 (setFlight e f):=by
 unfold setFlight;refine K2.bind (zdp e 1) λtb=>?_
 split
 ·exact zer _ _ _ (by decide)
 ·trivial
theorem ziC (env:Env)(outer:List Env):K2 (behindIsImport env outer):=by
 unfold behindIsImport;split
 ·trivial
 ·split
  ·trivial
  ·exact K2.bind (zdp _ _) λx=>trivial
theorem ziN:K2 underTheClaimsCaller:=by
 unfold underTheClaimsCaller;exact K2.bind (λx=>trivial) λx=>trivial
theorem zh6 (env:Env)(i:Bool)(l:List Env):K2 (keptBack env i l):=by
 cases l with
 | nil=>
  show K2 (if (env.scope.isGenerator||env.scope.isCoroutine)=true then pure Value.none else (do return if ← underTheClaimsCaller then .notImplemented else .none));by_cases c:(env.scope.isGenerator||env.scope.isCoroutine)=true
  ·rw[if_pos c]; trivial
  ·rw[if_neg c]; exact K2.bind ziN λx=>trivial
 | cons c l=>exact trivial
theorem zhp (sl:Obj→Array (Option Value))(o:Obj):two { o with slots:=sl o }=two o∧(o.isFreed=false→({ o with slots:=sl o }:Obj).isFreed=false):=by
 cases o with
 | mk c d dt s=>exact⟨rfl,by cases dt <;> simp[Obj.isFreed]⟩
theorem zf5:∀l:List Env,K2 (readyFrames l)
 | []=>trivial
 | env::outer=>by
  unfold readyFrames;split
  ·refine K2.bind (λo=>trivial) λo=>?_
   split
   ·trivial
   ·refine K2.bind (ziC _ _) λi=>K2.bind (zh6 _ _ _) λb=>?_
    exact⟨λo=>zhp (λo=>_) o,zf5 outer⟩
  ·trivial
theorem zhy (env:Env):K2 (PySem.frameOf env):=by
 unfold PySem.frameOf;refine K2.bind (λx=>trivial) λl=>K2.bind ?_ λo=>?_
 ·unfold frameObject;split
  ·trivial
  ·exact K2.bind (zf5 _) λx=>trivial
 ·split <;> trivial
theorem zgV (c:Value)(d:Data):K2 (newObj c d):=by
 unfold newObj
 repeat' (first | exact λa=>trivial | trivial | split | (refine K2.bind ?_ λx=>?_))
theorem zia (a b c d e:Value)(l:List Value):K2 (EntryCells.newEntry a b c d e l):=by
 unfold EntryCells.newEntry newFields;exact zgV _ _
theorem zie (f:Addr)(b:Bool):K2 (entryPlaceOf f b):=by
 unfold entryPlaceOf;refine K2.bind (λx=>trivial) λl=>?_
 split <;> trivial
theorem zgy (e:Value)(env:Env):K2 (noteFrame e env):=by
 unfold noteFrame;split
 ·refine K2.bind (zdp _ _) λh=>?_
  have tail:∀h f b,K2 (do setField e 1 (← EntryCells.newEntry h (← PySem.frameOf env) .none (rawInt f) .none (← entryPlaceOf f b))):=λh f b=>
   K2.bind (zhy _) λx=>K2.bind (zie _ _) λy=>K2.bind (zia _ _ _ _ _ _) λz=>zer _ _ _ (by decide)
  split
  ·refine K2.bind (zdp _ _) λy=>?_
   split
   ·trivial
   ·exact K2.bind (zer _ _ _ (by decide)) λ_=>tail _ _ _
  ·exact tail _ _ _
 ·trivial
theorem zgu (env:Env)(e:Value):K2 (leaving env e):=K2.bind (zgy _ _) λ_=>zes _ _
def za7 (B:Heap)(l:List Env)(e:Addr)(cls a0:Value)(h:Heap):Prop:=Heap.FlyingW B l e cls a0 h∧Cx2 h e (some .none)
section
variable {M:Model}{A:Around}{E:Value→Shared→Prop}{s:Shared}{B:Heap}{env:Env}{outer l:List Env}{L e:Addr}{cls a0:Value}{Q:Unit→Shared→Prop}
theorem ziu (hfr:A.frames=some (env::outer))(hf:env.frame=some L)(hfl:za7 B (env::outer) e cls a0 s.heap)
  (hQ:∀h',za7 B outer e cls a0 h'→s.heap.UpToSlots h'→Q () { s with heap:=h' }):wpAny M A (leaving env (.ref e)) Q E s:=
 wpAny_mono (zcm (zgu _ _) hfl.2 (wpAny_leaves_onW (Q:=λ_ s'=>∃h',s'={ s with heap:=h' }∧Heap.FlyingW B outer e cls a0 h'∧s.heap.UpToSlots h') hfr hf hfl.1 λh' a b=>⟨h',rfl,a,b⟩))
  (λ_ s' ⟨⟨h',z,a,b⟩,c⟩=>by subst z; exact hQ h' ⟨a,c⟩ b) λ_ _ x=>x
theorem zkr {h:Heap}{args:List Value}(hfr:A.frames=some (env::outer))(hf:env.frame=some L)(hkb:B.StaysIn h)(hl:h.FunFrames B (env::outer))(hx:Heap.MadeExcOf h s.heap e cls args)
  (hQ:∀h' t,za7 B outer e cls (.ref t) h'→s.heap.UpToSlots h'→Q () { s with heap:=h' }):wpAny M A (leaving env (.ref e)) Q E s:=by
 have c:Cx2 s.heap e (some .none):=by
  obtain⟨t,he,_⟩:=hx.there;exact⟨_,he,rfl⟩
 exact wpAny_mono (zcm (zgu _ _) c (wpAny_leaves_madeW (Q:=λ_ s'=>∃h' t,s'={ s with heap:=h' }∧Heap.FlyingW B outer e cls (.ref t) h'∧s.heap.UpToSlots h') hfr hf hkb hl hx λh' t a _ _ b=>⟨h',t,rfl,a,b⟩))
  (λ_ s' ⟨⟨h',t,z,a,b⟩,c⟩=>by subst z; exact hQ h' t ⟨a,c⟩ b) λ_ _ x=>x
theorem zhW (hfr:A.frames=some (env::outer))(hf:env.frame=some L)(hfl:za7 B (env::outer) e cls a0 s.heap)
  (hQ:∀h',Heap.HeldW B (env::outer) e cls a0 L h'∧Cx2 h' e (some .none)→s.heap.UpToSlots h'→Q () { s with heap:=h' }):wpAny M A (noteFrame (.ref e) env) Q E s:=
 wpAny_mono (zcm (zgy _ _) hfl.2 (wpAny_looks_onW (Q:=λ_ s'=>∃h',s'={ s with heap:=h' }∧Heap.HeldW B (env::outer) e cls a0 L h'∧s.heap.UpToSlots h') hfr hf hfl.1 λh' a b=>⟨h',rfl,a,b⟩))
  (λ_ s' ⟨⟨h',z,a,b⟩,c⟩=>by subst z; exact hQ h' ⟨a,c⟩ b) λ_ _ x=>x
theorem zkk (hh:Heap.HeldW B l e cls a0 L s.heap∧Cx2 s.heap e (some .none))
  (hQ:∀h',za7 B l e cls a0 h'→s.heap.UpToSlots h'→Q () { s with heap:=h' }):wpAny M A (setFlight (.ref e) none) Q E s:=
 wpAny_mono (zcm (zes _ _) hh.2 (wpAny_landsW (Q:=λ_ s'=>∃h',s'={ s with heap:=h' }∧Heap.FlyingW B l e cls a0 h'∧s.heap.UpToSlots h') hh.1 λh' a b=>⟨h',rfl,a,b⟩))
  (λ_ s' ⟨⟨h',z,a,b⟩,c⟩=>by subst z; exact hQ h' ⟨a,c⟩ b) λ_ _ x=>x
theorem zh4 (hh:za7 B l e cls a0 s.heap)
  (hQ:∀h',za7 B l e cls a0 h'→s.heap.UpToSlots h'→Q () { s with heap:=h' }):wpAny M A (setFlight (.ref e) none) Q E s:=
 wpAny_mono (zcm (zes _ _) hh.2 (lands_againW (Q:=λ_ s'=>∃h',s'={ s with heap:=h' }∧Heap.FlyingW B l e cls a0 h'∧s.heap.UpToSlots h') hh.1 λh' a b=>⟨h',rfl,a,b⟩))
  (λ_ s' ⟨⟨h',z,a,b⟩,c⟩=>by subst z; exact hQ h' ⟨a,c⟩ b) λ_ _ x=>x
end
def HdH (A:Around)(h:Heap):Prop:=A.handled=none∨∃e,A.handled=some (.ref e)∧Cx2 h e (some .none)
section
variable {prog:Program}{w:World}{A:Around}{E:Value→Shared→Prop}{s:Shared}
theorem ziy {α:Type}{a:Addr}{o:Obj}{vs:Array Value}{Q:α→Shared→Prop}(hd:HdH A s.heap)(ha:s.heap.get? a=some o)(hv:o.data=.fields vs)(hs:2<vs.size)(hne:∀e,A.handled=some (.ref e)→e≠a)
  (h:∀h',Heap.ExtBut a s.heap h'→(∃o',h'.get? a=some o'∧o'.cls=o.cls)→E (.ref a) { s with heap:=h' }):wpAny (model prog w) A (raiseNew (.ref a):Sem α) Q E s:=by
 unfold raiseNew;refine wpAny_bind (wpAny_handled ?_);rcases hd with hd | ⟨e,hd,oe,he,h2⟩
 ·rw[hd];exact wpAny_bind (wpAny_pure (wpAny_throw (h _ (Heap.ExtBut.refl a s.heap) ⟨o,ha,rfl⟩)))
 ·rw[hd];have ne:=hne e hd;dsimp only;rw[if_pos (show (Value.ref e != Value.ref a)=true by simp[ne])];have hoe:∃ws,oe.data=.fields ws∧ws[2]?=some .none:=by
   unfold two at h2;split at h2
   ·exact⟨_,by assumption,h2⟩
   ·cases h2
  obtain⟨ws,hw,w2⟩:=hoe;refine wpAny_bind (wpAny_holding (wpAny_runValue (codeAny_builtin (b:=Builtin.«proto.unchain») (entryFor_of_fast (by kernel_rfl)) ?_)));unfold Builtin.«proto.unchain»;dsimp only;refine wpAny_bind (wpAny_field he hw w2 ?_);rw[if_pos (by decide)];refine wpAny_bind (wpAny_pure (wpAny_pure ?_));refine wpAny_bind (wpAny_setField (s:=s) ha hv hs (wpAny_throw (h _ (Heap.SameBut.update ..).extBut ⟨_,Heap.get?_update_self _ ha (Obj.isFreed_of_fields (Obj.data_mapFields hv _)),Obj.cls_mapFields _ _⟩)))
end
section
variable {prog:Program}{w:World}{A:Around}{E:Value→Shared→Prop}{s:Shared}
theorem Cx2.push {h:Heap}{e:Addr}{v:Option Value}(c:Cx2 h e v)(o:Obj):Cx2 (h.push o) e v:=let ⟨o',a,b⟩:=c; ⟨o',Heap.get?_push_of_some _ a,b⟩
theorem HdH.push {h:Heap}(c:HdH A h)(o:Obj):HdH A (h.push o):=c.imp id λ⟨e,a,b⟩=>⟨e,a,b.push o⟩
theorem zko {it:Addr}{x left step:Int}{Q:Option Value→Shared→Prop}(hd:HdH A s.heap)(hit:IsRangeIter s.heap it x left step)(hz:left≤0)
  (hQ:∀h',Heap.ExtBut it s.heap h'→Q none { s with heap:=h' }):wpAny (model prog w) A (pyNext (.ref it)) Q E s:=by
 have T:s.TypeIs (.ref it) "range_iterator":=⟨_,hit,rfl⟩;unfold pyNext;refine wpAny_bind (wpAny_attempt (wpAny_callSpecial?_slot (name:=Str.ofString "__next__") T F.slot_range_iterator_next
  (wpAny_call_entry F.slot_range_iterator_next T F.entry_range_iterator_next ?_ (F.args_range_iterator_next_1 _))))
 refine wpAny_bind (m:=field (.ref it) 0) (wpAny_field hit rfl (x:=rawInt x) rfl ?_);refine wpAny_bind (m:=field (.ref it) 1) (wpAny_field hit rfl (x:=rawInt left) rfl ?_);refine wpAny_bind (m:=field (.ref it) 2) (wpAny_field hit rfl (x:=rawInt step) rfl ?_);show wpAny _ _ (if left≤0 then _ else _) _ _ s;rw[if_pos hz];refine wpAny_bind (wpAny_rule (wpAny_bind ?_));refine wpAny_bind (m:=newExc (.type "StopIteration") []) ?_;unfold newExc newTuple;refine wpAny_bind (wpAny_newObj_type ?_ (by size_fits));refine wpAny_bind (m:=firstArgMember _ _) (wpAny_of_eq (a:=Value.none) rfl ?_);refine wpAny_newObj_type ?_ (by size_fits);refine ziy (o:={ cls:=.type "StopIteration",data:=.fields #[.ref s.heap.objs.size,.none,.none,.none,.bool false,.none] }) (vs:=#[.ref s.heap.objs.size,.none,.none,.none,.bool false,.none]) ((HdH.push (A:=A.in1) hd _).push _) (Heap.get?_push_size _ rfl) rfl (by simp) (λe he z=>?_) λh' xb ⟨o',ho,hc⟩=>?_
 ·rcases hd with q | ⟨e',q,o,ho,_⟩
  ·rw[show A.in1.handled=A.handled from rfl,q] at he; cases he
  ·rw[show A.in1.handled=A.handled from rfl,q] at he;cases he;have:=Heap.lt_size ho;rw[z,Heap.size_push] at this;exact absurd this (VaU.mpr (VaI _))
 ·refine wpAny_bind (wpAny_isInstance (T:="StopIteration") (b:=true) ⟨_,ho,hc⟩ isSubtype_stop ?_);refine wpAny_pure (hQ _ λb o hb e=>xb b o (λz=>?_) (Heap.get?_push_of_some _ (Heap.get?_push_of_some _ e)));have:=Heap.lt_size e;rw[z,Heap.size_push] at this;exact absurd this (VaU.mpr (VaI _))
end
abbrev St:=L2.St
inductive D where
 | non | bl (b:Bool) | int (i:Int) | str (x:Str) | tup (xs:List D) | ref (n:Nat) | exc (c:Addr)
  | xw (c:Addr) (x:Str)
inductive Ob where
 | lst (xs:List D) | frz (xs:List D)
  | ins (C:Addr) (fs:List (Str×D))
  | dct (kvs:List (List Key×D))
  | tpl (ws:List Str)
  | dck (kvs:List (Key×D))
  | cod (P:Addr) (pos:Pos) (q:Str)
abbrev Sto:=List Ob
abbrev Ev:=List (Option D)
abbrev DK:=D→Sto→Prop
abbrev TDE:=Ev→Sto→DK→Prop
abbrev TDT:=Ev→Sto→(Bool→Sto→Prop)→Prop
abbrev TDA:=Ev→Sto→(List D→Sto→Prop)→Prop
structure zch where
 nx:Ev→Sto→Prop
 rt:DK
 bk:Ev→Sto→Prop:=λ_ _=>False
 ct:Ev→Sto→Prop:=λ_ _=>False
abbrev TDS:=zch→Ev→Sto→Prop
def isX (a c:Addr):HO:=.ext λh=>∃o,h.get? a=some o∧o.cls=.ref c∧two o=some .none
def isN (a c:Addr):HO:=.ext λh=>∃vs sl,h.get? a=some ⟨.ref c,none,.fields vs,sl⟩∧vs[2]?=some .none
def isW (a c dx:Addr):HO:=.ext λh=>∃o,h.get? a=some o∧o.cls=.ref c∧two o=some .none∧o.dict=some dx∧PySem.W.notCls o=true
def isD (dx:Addr)(x:Str):HO:=.ext λh=>∃mA t,h.Ns1 dx mA∧mA "word"=some (.str x t)
inductive Rp (r:List Addr)(H:Hp):D→V→Prop
 | non:Rp r H .non .non
 | bl (b:Bool):Rp r H (.bl b) (.bl b)
 | int (i:Int):Rp r H (.int i) (.int i)
 | str (x:Str):Rp r H (.str x) (.str x)
 | tup {ds:List D} {xs:List V} {a:Addr}:H a=some (.tup xs)→ds.length=xs.length→(∀(i:Nat) (d:D) (v:V),ds[i]?=some d→xs[i]?=some v→Rp r H d v)→Rp r H (.tup ds) (.ref a)
 | ref {n:Nat} {a:Addr}:r[n]?=some a→Rp r H (.ref n) (.ref a)
 | exc {c a:Addr}:H a=some (isX a c)→Rp r H (.exc c) (.ref a)
 | xw {c a dx:Addr} {x:Str}:H a=some (isW a c dx)→H dx=some (isD dx x)→Rp r H (.xw c x) (.ref a)
def Rps (r:List Addr)(H:Hp)(ds:List D)(vs:List V):Prop:=ds.length=vs.length∧∀(i:Nat) (d:D) (v:V),ds[i]?=some d→vs[i]?=some v→Rp r H d v
structure Ext (r r':List Addr)(H H':Hp):Prop where
 adr:∀(n:Nat) (a:Addr),r[n]?=some a→r'[n]?=some a
 tup:∀a xs,H a=some (.tup xs)→H' a=some (.tup xs)
 xc:∀a φ,H a=some (.ext φ)→H' a=some (.ext φ)
section
variable {r r' r2:List Addr}{H H' H2:Hp}{d:D}{v:V}{ds:List D}{vs:List V}
theorem Ext.refl:Ext r r H H:=⟨λ_ _ h=>h,λ_ _ h=>h,λ_ _ h=>h⟩
theorem Ext.trans (a:Ext r r' H H')(b:Ext r' r2 H' H2):Ext r r2 H H2:=⟨λn x h=>b.adr n x (a.adr n x h),λx y h=>b.tup x y (a.tup x y h),λx y h=>b.xc x y (a.xc x y h)⟩
theorem Rp.ext (h:Rp r H d v)(e:Ext r r' H H'):Rp r' H' d v:=by
 induction h with
 | non=>exact .non
 | bl b=>exact .bl b
 | int i=>exact .int i
 | str x=>exact .str x
 | tup h l _ ih=>exact .tup (e.tup _ _ h) l ih
 | ref h=>exact .ref (e.adr _ _ h)
 | exc h=>exact .exc (e.xc _ _ h)
 | xw h1 h2=>exact .xw (e.xc _ _ h1) (e.xc _ _ h2)
theorem Rps.ext (h:Rps r H ds vs)(e:Ext r r' H H'):Rps r' H' ds vs:=⟨h.1,λi d v h1 h2=>(h.2 i d v h1 h2).ext e⟩
theorem Rps.nil:Rps r H [] []:=⟨rfl,λi d v h=>by simp at h⟩
theorem Rps.cons (h:Rp r H d v)(t:Rps r H ds vs):Rps r H (d::ds) (v::vs):=by
 refine⟨by simp[t.1],λi x y h1 h2=>?_⟩;cases i with
 | zero=>
  simp at h1 h2;subst h1; subst h2
  exact h
 | succ i=>exact t.2 i x y (by simpa using h1) (by simpa using h2)
theorem Rps.tail {y:V}(h:Rps r H (d::ds) (y::vs)):Rp r H d y∧Rps r H ds vs:=
 ⟨h.2 0 d y rfl rfl,by simpa using h.1,λi a b h1 h2=>h.2 (i+1) a b (by simpa using h1) (by simpa using h2)⟩
theorem Rps.uncons (h:Rps r H (d::ds) vs):∃v vs',vs=v::vs'∧Rp r H d v∧Rps r H ds vs':=by
 cases vs with
 | nil=>exact absurd h.1 (by simp)
 | cons v vs'=>exact⟨v,vs',rfl,h.tail⟩
theorem Rps.unnil (h:Rps r H [] vs):vs=[]:=by
 cases vs with
 | nil=>rfl
 | cons v vs'=>exact absurd h.1 (by simp)
theorem Rps.get {i:Nat}(h:Rps r H ds vs)(e:ds[i]?=some d):∃v,vs[i]?=some v∧Rp r H d v:=by
 have hi:i<ds.length:=(Vad.mp e).1
 have hv:i<vs.length:=by rw[← h.1]; exact hi
 exact⟨vs[i],by simp[hv],h.2 i d vs[i] e (by simp[hv])⟩
theorem Rps.get' {i:Nat}(h:Rps r H ds vs)(e:vs[i]?=some v):∃d,ds[i]?=some d∧Rp r H d v:=by
 have hv:i<vs.length:=(Vad.mp e).1
 have hi:i<ds.length:=by rw[h.1]; exact hv
 exact⟨ds[i],by simp[hi],h.2 i ds[i] v (by simp[hi]) e⟩
theorem Rps.snoc (h:Rps r H ds vs)(t:Rp r H d v):Rps r H (ds++[d]) (vs++[v]):=by
 refine⟨by simp[h.1],λi x y h1 h2=>?_⟩;by_cases hi:i<ds.length
 ·rw[Vap hi] at h1;rw[Vap (by rw[← h.1]; exact hi)] at h2;exact h.2 i x y h1 h2
 ·have hl:i<(ds++[d]).length:=(Vad.mp h1).1
  have e:i=ds.length:=by simp at hl; omega
  subst e;rw[Vax (Vac _)] at h1;rw[h.1,Vax (Vac _)] at h2;simp at h1 h2;subst h1; subst h2
  exact t
theorem Rps.tupR {a:Addr}(h:Rps r H ds vs)(e:H a=some (.tup vs)):Rp r H (.tup ds) (.ref a):=.tup e h.1 h.2
theorem Rp.untup {vs:V}(h:Rp r H (.tup ds) vs):∃a xs,vs=.ref a∧H a=some (.tup xs)∧Rps r H ds xs:=by
 cases h with
 | tup e l f=>exact⟨_,_,rfl,e,l,f⟩
end
def SqF (K:PySem.W.Frag)(H:Hp)(a:Addr)(xs:List V):Prop:=
 (∃o,H a=some (.frz o (.lst xs)))∨
  ∃(o:Obj) (its:Array Value) (n:Nat),K.lookup a=some o∧o.cls=.type "list"∧o.dict=none∧o.data=.seq its n∧its.size≤sizeLine∧zac xs its.toList
theorem SqF.sql {K:PySem.W.Frag}{H:Hp}{a:Addr}{xs:List V}(h:SqF K H a xs):SqL K H a xs:=by
 rcases h with ⟨o,h⟩ | h
 ·exact .inl (.inr ⟨o,h⟩)
 ·exact .inr h
def FR {α:Type}(r:List Addr)(H:Hp)(fs:List (α×D))(fs':List (α×V)):Prop:=fs.map (·.1)=fs'.map (·.1)∧Rps r H (fs.map (·.2)) (fs'.map (·.2))
theorem FR.ext {α:Type}{r r':List Addr}{H H':Hp}{fs:List (α×D)}{fs':List (α×V)}(h:FR r H fs fs')(e:Ext r r' H H'):FR r' H' fs fs':=⟨h.1,h.2.ext e⟩
theorem FR.nil {α:Type}{r:List Addr}{H:Hp}:FR (α:=α) r H [] []:=⟨rfl,Rps.nil⟩
def Tab (pos:Pos)(q:Str)(H:Hp)(ps:Array Value):Prop:=TriplesOk ps.toList∧(codeAmong pos ps.toList=none∨∃c,codeAmong pos ps.toList=some (.ref c)∧H c=some (.ext λh=>h.CodeRec (.ref c) q))
theorem Tab.same {pos:Pos}{q:Str}{H H':Hp}{ps:Array Value}(h:Tab pos q H ps)(e:∀b φ,H b=some (.ext φ)→H' b=some (.ext φ)):Tab pos q H' ps:=⟨h.1,h.2.imp id λ⟨c,a,b⟩=>⟨c,a,e _ _ b⟩⟩
def ObR (K:PySem.W.Frag)(r:List Addr)(H:Hp)(a:Addr):Ob→Prop
 | .lst ds=>∃xs,H a=some (.lst xs)∧Rps r H ds xs
 | .frz ds=>∃xs,SqF K H a xs∧Rps r H ds xs
 | .ins C fs=>∃dx fs',H a=some (.ins C dx fs')∧FR r H fs fs'
 | .dct kvs=>∃kvs',H a=some (.dT kvs')∧FR r H kvs kvs'
 | .dck kvs=>∃kvs',H a=some (.dK kvs')∧FR r H kvs kvs'
 | .tpl ws=>∃(o:Obj) (its:Array Value) (n:Nat),K.lookup a=some o∧o.cls=.type "tuple"∧o.data=.seq its n∧its.size≤sizeLine∧zac (ws.map V.str) its.toList
 | .cod P pos q=>a=P∧∃ps,H a=some (.tbl ps)∧Tab pos q H ps
def zbB:Ob→Bool
 | .frz _=>false
 | .tpl _=>false
 | _=>true
structure zaq (K:PySem.W.Frag)(r:List Addr)(S:Sto)(H:Hp):Prop where
 len:r.length=S.length
 ob:∀(n:Nat) (a:Addr) (o:Ob),r[n]?=some a→S[n]?=some o→ObR K r H a o
 nd:∀(n m:Nat) (a:Addr) (o u:Ob),r[n]?=some a→r[m]?=some a→S[n]?=some o→S[m]?=some u→zbB o=true→zbB u=true→n=m
def zaB:Ob→List D
 | .lst ds=>ds
 | .frz ds=>ds
 | _=>[.exc 0]
def zbE:Ob→Option Ob
 | .lst ds=>some (.lst ds)
 | .frz ds=>some (.frz ds)
 | _=>none
def lAt (S:Sto)(n:Nat):Option Ob:=(S[n]?).bind zbE
theorem zjU {o u:Ob}(h:zbE o=some u):u=o:=by
 cases o <;> simp[zbE] at h <;> exact h.symm
theorem zbz {S:Sto}{n:Nat}{o:Ob}(h:lAt S n=some o):S[n]?=some o∧zbE o=some o:=by
  unfold lAt at h;cases q:S[n]? with
  | none=>
   rw[q] at h;cases h
  | some u=>
    rw[q] at h;have h':zbE u=some o:=h
    have e:=zjU h';subst e;exact⟨rfl,h'⟩
theorem zbT {S:Sto}{n:Nat}{o:Ob}(h:S[n]?=some o)(hL:zbE o=some o):lAt S n=some o:=by
 unfold lAt;rw[h];exact hL
section
variable {K:PySem.W.Frag}{r r':List Addr}{S:Sto}{H H':Hp}{n:Nat}{a p:Addr}
theorem zaq.at {o:Ob}(h:zaq K r S H)(e:S[n]?=some o):∃a,r[n]?=some a∧ObR K r H a o:=by
 have hn:n<S.length:=(Vad.mp e).1
 have hr:n<r.length:=by rw[h.len]; exact hn
 exact⟨r[n],by simp[hr],h.ob n r[n] o (by simp[hr]) e⟩
theorem ObR.list {o:Ob}(h:ObR K r H a o)(hL:zbE o=some o):∃xs,SqL K H a xs∧Rps r H (zaB o) xs:=by
 cases o with
 | lst ds=>obtain⟨xs,e,q⟩:=h; exact⟨xs,SqL.of e,q⟩
 | frz ds=>obtain⟨xs,e,q⟩:=h; exact⟨xs,e.sql,q⟩
 | ins C fs=>cases hL
 | dct kvs=>cases hL
 | dck kvs=>cases hL
 | tpl ws=>cases hL
 | cod P pos q=>cases hL
theorem ObR.keep {o:Ob}(q:ObR K r H a o)(x:Ext r r' H H')(ha:∀u,H a=some u→H' a=some u):ObR K r' H' a o:=by
 cases o with
 | lst ds=>obtain⟨xs,h3,h4⟩:=q; exact⟨xs,ha _ h3,h4.ext x⟩
 | frz ds=>
  obtain⟨xs,h3,h4⟩:=q;refine⟨xs,?_,h4.ext x⟩;rcases h3 with ⟨o,h3⟩ | h3
  ·exact .inl ⟨o,ha _ h3⟩
  ·exact .inr h3
 | ins C fs=>obtain⟨dx,fs',h3,h4⟩:=q; exact⟨dx,fs',ha _ h3,h4.ext x⟩
 | dct kvs=>obtain⟨ks,h3,h4⟩:=q; exact⟨ks,ha _ h3,h4.ext x⟩
 | dck kvs=>obtain⟨ks,h3,h4⟩:=q; exact⟨ks,ha _ h3,h4.ext x⟩
 | tpl ws=>exact q
 | cod P pos q'=>obtain⟨e,ps,h3,h4⟩:=q; exact⟨e,ps,ha _ h3,h4.same x.xc⟩
theorem ObR.own {o:Ob}(q:ObR K r H a o)(h:zbB o=true):∃u,H a=some u∧(∀xs,u≠HO.tup xs)∧(∀φ,u≠HO.ext φ)∧∀z y,u≠HO.frz z y:=by
 cases o with
 | lst ds=>obtain⟨xs,h3,h4⟩:=q; exact⟨_,h3,(λ_ z=>by cases z),(λ_ z=>by cases z),(λ_ _ z=>by cases z)⟩
 | frz ds=>cases h
 | tpl ws=>cases h
 | ins C fs=>obtain⟨dx,fs',h3,h4⟩:=q; exact⟨_,h3,(λ_ z=>by cases z),(λ_ z=>by cases z),(λ_ _ z=>by cases z)⟩
 | dct kvs=>obtain⟨ks,h3,h4⟩:=q; exact⟨_,h3,(λ_ z=>by cases z),(λ_ z=>by cases z),(λ_ _ z=>by cases z)⟩
 | dck kvs=>obtain⟨ks,h3,h4⟩:=q; exact⟨_,h3,(λ_ z=>by cases z),(λ_ z=>by cases z),(λ_ _ z=>by cases z)⟩
 | cod P pos q'=>obtain⟨_,ps,h3,_⟩:=q; exact⟨_,h3,(λ_ z=>by cases z),(λ_ z=>by cases z),(λ_ _ z=>by cases z)⟩
theorem zaq.same (h:zaq K r S H)(e:∀b o,H b=some o→H' b=some o):zaq K r S H':=
 ⟨h.len,λn a o h1 h2=>(h.ob n a o h1 h2).keep ⟨λ_ _ q=>q,λa xs q=>e _ _ q,λa c q=>e _ _ q⟩ (e a),h.nd⟩
theorem zbm {o:HO}(h:H p=none):∀b u,H b=some u→(upd H p o) b=some u:=λb u q=>by rw[zah (zaG q h)]; exact q
theorem zdG {n:Nat}{b:Addr}(e:(r++[p])[n]?=some b):(n<r.length∧r[n]?=some b)∨(n=r.length∧b=p):=by
 by_cases hn:n<r.length
 ·rw[Vap hn] at e; exact .inl ⟨hn,e⟩
 ·have hl:n<(r++[p]).length:=(Vad.mp e).1
  have en:n=r.length:=by simp at hl; omega
  subst en;rw[Vax (Vac _)] at e;simp at e;exact .inr ⟨rfl,e.symm⟩
theorem zaq.pushO {o:Ob}(h:zaq K r S H)(hp:H p=none)(keep:∀b u,H b=some u→H' b=some u)(q:Ext r (r++[p]) H H'→ObR K (r++[p]) H' p o):zaq K (r++[p]) (S++[o]) H'∧Ext r (r++[p]) H H':=by
 have x:Ext r (r++[p]) H H':=⟨λn a e=>by
  have hn:n<r.length:=(Vad.mp e).1;rw[Vap hn]; exact e,λa ys e=>keep _ _ e,λa c e=>keep _ _ e⟩
 have sS:∀ {n:Nat} {u:Ob},n<r.length→(S++[o])[n]?=some u→S[n]?=some u:=λ{n u} hn e=>by
  rw[Vap (by rw[← h.len]; exact hn)] at e; exact e
 refine⟨⟨by simp[h.len],λn a u h1 h2=>?_,λn m a u w h1 h2 h3 h4 o1 o2=>?_⟩,x⟩
 ·rcases zdG h1 with ⟨hn,e⟩ | ⟨rfl,rfl⟩
  ·exact(h.ob n a u e (sS hn h2)).keep x (keep a)
  ·rw[h.len,Vax (Vac _)] at h2;simp at h2;subst h2;exact q x
 ·rcases zdG h1 with ⟨hn,e⟩ | ⟨rfl,rfl⟩
  ·rcases zdG h2 with ⟨hm,e'⟩ | ⟨rfl,rfl⟩
   ·exact h.nd n m a u w e e' (sS hn h3) (sS hm h4) o1 o2
   ·obtain⟨zs,h5,_⟩:=(h.ob n _ _ e (sS hn h3)).own o1;rw[hp] at h5; cases h5
  ·rcases zdG h2 with ⟨hm,e'⟩ | ⟨rfl,_⟩
   ·obtain⟨zs,h5,_⟩:=(h.ob m _ _ e' (sS hm h4)).own o2;rw[hp] at h5; cases h5
   ·rfl
theorem zaq.push {ds:List D}{xs:List V}(h:zaq K r S H)(hp:H p=none)(q:Rps r H ds xs):zaq K (r++[p]) (S++[.lst ds]) (upd H p (.lst xs))∧Ext r (r++[p]) H (upd H p (.lst xs)):=
 h.pushO hp (zbm hp) λx=>⟨xs,zaI,q.ext x⟩
theorem zaq.setO {o o':Ob}{u:HO}(h:zaq K r S H)(hn:r[n]?=some a)(hS:S[n]?=some o)(ho:zbB o=true)(ho':zbB o'=true)(q:Ext r r H (upd H a u)→ObR K r (upd H a u) a o'):zaq K r (S.set n o') (upd H a u)∧Ext r r H (upd H a u):=by
 obtain⟨u0,h0,t1,t2,t3⟩:=(h.ob n a _ hn hS).own ho;have x:Ext r r H (upd H a u):=⟨λ_ _ e=>e,λb zs e=>by
  rw[zah (zeY e h0 (λz=>t1 zs z.symm))]; exact e,λb c e=>by
  rw[zah (zeY e h0 (λz=>t2 c z.symm))]; exact e⟩
 have hlt:n<S.length:=(Vad.mp hS).1
 have off:∀ {m:Nat} {w:Ob},m≠n→(S.set n o')[m]?=some w→S[m]?=some w:=λ{m w} hm e=>by
  rw[Van (Ne.symm hm)] at e; exact e
 refine⟨⟨by simp[h.len],λm b w h1 h2=>?_,λm k b w y h1 h2 h3 h4 o1 o2=>?_⟩,x⟩
 ·by_cases hm:m=n
  ·subst hm;rw[hn] at h1; cases h1
   rw[Vai hlt] at h2;cases h2;exact q x
  ·have h2':=off hm h2
   have q':=h.ob m b w h1 h2';by_cases hw:zbB w=true
   ·have hb:b≠a:=λz=>hm (by subst z; exact h.nd m n b w o h1 hn h2' hS hw ho)
    exact q'.keep x λz e=>by rw[zah hb]; exact e
   ·cases w with
    | frz es=>
     obtain⟨zs,h3,h4⟩:=q';refine⟨zs,?_,h4.ext x⟩;rcases h3 with ⟨z,h3⟩ | h3
     ·exact .inl ⟨z,by rw[zah (zeY h3 h0 (λy=>t3 _ _ y.symm))]; exact h3⟩
     ·exact .inr h3
    | tpl ws=>exact q'
    | _=>exact absurd rfl hw
 ·have back:∀ {j:Nat} {w:Ob},(S.set n o')[j]?=some w→zbB w=true→∃y,S[j]?=some y∧zbB y=true:=λ{j w} e ow=>by
   by_cases hj:j=n
   ·subst hj; exact⟨o,hS,ho⟩
   ·exact⟨w,off hj e,ow⟩
  obtain⟨us',h3',q3⟩:=back h3 o1;obtain⟨ws',h4',q4⟩:=back h4 o2;exact h.nd m k b us' ws' h1 h2 h3' h4' q3 q4
theorem zaq.set {ds ds':List D}{xs:List V}(h:zaq K r S H)(hn:r[n]?=some a)(hS:S[n]?=some (.lst ds))(q:Rps r H ds' xs):zaq K r (S.set n (.lst ds')) (upd H a (.lst xs))∧Ext r r H (upd H a (.lst xs)):=
 h.setO hn hS rfl rfl λx=>⟨xs,zaI,q.ext x⟩
end
def Rs (r:List Addr)(H:Hp)(dl:Ev)(σ:St):Prop:=dl.length=σ.length∧∀(i:Nat) (d:D),dl[i]?=some (some d)→∃v,σ[i]?=some (some v)∧Rp r H d v
theorem Rs.ext {r r':List Addr}{H H':Hp}{dl:Ev}{σ:St}(h:Rs r H dl σ)(e:Ext r r' H H'):Rs r' H' dl σ:=⟨h.1,λi d q=>by
 obtain⟨v,h1,h2⟩:=h.2 i d q;exact⟨v,h1,h2.ext e⟩⟩
theorem Rs.set {r:List Addr}{H:Hp}{dl:Ev}{σ:St}{d:D}{v:V}(i:Nat)(h:Rs r H dl σ)(q:Rp r H d v):Rs r H (dl.set i (some d)) (σ.set i (some v)):=by
 refine⟨by simp[h.1],λj e hj=>?_⟩;by_cases hij:i=j
 ·subst hij;have hl:i<dl.length:=by
   have:=(Vad.mp hj).1;simpa using this
  rw[Vai hl] at hj;cases hj;exact⟨v,by rw[Vai (by rw[← h.1]; exact hl)],q⟩
 ·rw[Van hij] at hj;obtain⟨v',h1,h2⟩:=h.2 j e hj;exact⟨v',by rw[Van hij]; exact h1,h2⟩
structure Zx where
 ex:Ev→Addr→Sto→Prop
 w:St→XK
abbrev Zc (ex:Addr→Sto→Prop)(E:XK):Zx:=⟨λ_=>ex,λ_=>E⟩
def zbS (K:PySem.W.Frag)(Z:Zx)(r:List Addr)(H:Hp):Prop:=∀(dl:Ev) (σ:St) (c:Addr) (H':Hp) (r':List Addr) (S':Sto),Ext r r' H H'→Rs r' H' dl σ→zaq K r' S' H'→Z.ex dl c S'→Z.w σ (.ref c) none H'
theorem zbS.ext {K:PySem.W.Frag}{Z:Zx}{r r':List Addr}{H H':Hp}(h:zbS K Z r H)(e:Ext r r' H H'):zbS K Z r' H':=λdl σ c H2 r2 S2 x=>h dl σ c H2 r2 S2 (e.trans x)
structure Rel (K:PySem.W.Frag)(Z:Zx)(r:List Addr)(S:Sto)(H:Hp):Prop where
 b:zaq K r S H
 xw:zbS K Z r H
section
variable {K:PySem.W.Frag}{Z:Zx}{r r':List Addr}{S:Sto}{H H':Hp}{n:Nat}{a p:Addr}
theorem Rel.len (h:Rel K Z r S H):r.length=S.length:=h.b.len
theorem Rel.at {o:Ob}(h:Rel K Z r S H)(e:S[n]?=some o):∃a,r[n]?=some a∧ObR K r H a o:=h.b.at e
theorem Rel.same (h:Rel K Z r S H)(e:∀b o,H b=some o→H' b=some o):Rel K Z r S H':=⟨h.b.same e,h.xw.ext ⟨λ_ _ q=>q,λa xs q=>e _ _ q,λa c q=>e _ _ q⟩⟩
theorem Rel.push {ds:List D}{xs:List V}(h:Rel K Z r S H)(hp:H p=none)(q:Rps r H ds xs):Rel K Z (r++[p]) (S++[.lst ds]) (upd H p (.lst xs))∧Ext r (r++[p]) H (upd H p (.lst xs)):=by
 obtain⟨h1,h2⟩:=h.b.push hp q;exact⟨⟨h1,h.xw.ext h2⟩,h2⟩
theorem Rel.set {ds ds':List D}{xs:List V}(h:Rel K Z r S H)(hn:r[n]?=some a)(hS:S[n]?=some (.lst ds))(q:Rps r H ds' xs):Rel K Z r (S.set n (.lst ds')) (upd H a (.lst xs))∧Ext r r H (upd H a (.lst xs)):=by
 obtain⟨h1,h2⟩:=h.b.set hn hS q;exact⟨⟨h1,h.xw.ext h2⟩,h2⟩
end
def Ret (K:PySem.W.Frag)(Z:Zx)(r:List Addr)(H:Hp)(Q:DK)(Qv:VK):Prop:=∀v H' r' d S',Ext r r' H H'→Rel K Z r' S' H'→Rp r' H' d v→Q d S'→Qv v H'
theorem Ret.ext {K:PySem.W.Frag}{Z:Zx}{r r':List Addr}{H H':Hp}{Q:DK}{Qv:VK}(h:Ret K Z r H Q Qv)(e:Ext r r' H H'):Ret K Z r' H' Q Qv:=λv H2 r2 d S2 x=>h v H2 r2 d S2 (e.trans x)
def up (K:PySem.W.Frag)(Z:Zx)(t:TDE):TE:=λσ H Qv=>∃r dl S Q,Rs r H dl σ∧Rel K Z r S H∧t dl S Q∧Ret K Z r H Q Qv
def upT (K:PySem.W.Frag)(Z:Zx)(t:TDT):TT:=λσ H Qb=>∃r dl S Q,Rs r H dl σ∧Rel K Z r S H∧t dl S Q∧∀b H' r' S',Ext r r' H H'→Rel K Z r' S' H'→Q b S'→Qb b H'
def upA (K:PySem.W.Frag)(Z:Zx)(t:TDA):TA:=λσ H Qv=>∃r dl S Q,Rs r H dl σ∧Rel K Z r S H∧t dl S Q∧∀vs H' r' ds S',Ext r r' H H'→Rel K Z r' S' H'→Rps r' H' ds vs→Q ds S'→Qv vs H'
structure zbA (K:PySem.W.Frag)(Z:Zx)(r:List Addr)(H:Hp)(E:zch)(F:zaU):Prop where
 nx:∀σ' H' r' dl' S',Ext r r' H H'→Rs r' H' dl' σ'→Rel K Z r' S' H'→E.nx dl' S'→F.nx σ' H'
 bk:∀σ' H' r' dl' S',Ext r r' H H'→Rs r' H' dl' σ'→Rel K Z r' S' H'→E.bk dl' S'→F.bk σ' H'
 ct:∀σ' H' r' dl' S',Ext r r' H H'→Rs r' H' dl' σ'→Rel K Z r' S' H'→E.ct dl' S'→F.ct σ' H'
 rt:Ret K Z r H E.rt F.rt
theorem zbA.ext {K:PySem.W.Frag}{Z:Zx}{r r':List Addr}{H H':Hp}{E:zch}{F:zaU}(h:zbA K Z r H E F)(e:Ext r r' H H'):zbA K Z r' H' E F:=
 ⟨λa b c d f x=>h.nx a b c d f (e.trans x),λa b c d f x=>h.bk a b c d f (e.trans x),λa b c d f x=>h.ct a b c d f (e.trans x),h.rt.ext e⟩
def upS (K:PySem.W.Frag)(Z:Zx)(t:TDS):TS:=λF σ H=>∃r dl S E,Rs r H dl σ∧Rel K Z r S H∧t E dl S∧zbA K Z r H E F
def PD (X:Cx)(Z:Zx)(e:Expr)(t:TDE):Prop:=PE X e (up X.K Z t)
def PDT (X:Cx)(Z:Zx)(e:Expr)(t:TDT):Prop:=PT X e (upT X.K Z t)
def PDW (X:Cx)(Z:Zx)(e:Expr)(t:TDT):Prop:=PW X e (upT X.K Z t)
def PDA (X:Cx)(Z:Zx)(es:List Expr)(t:TDA):Prop:=PA X es (upA X.K Z t)
def PDS (X:Cx)(Z:Zx)(st:Stmt)(t:TDS):Prop:=PS X st (upS X.K Z t)
def zaZ (X:Cx)(Z:Zx)(st:List Stmt)(t:TDS):Prop:=PSs X st (upS X.K Z t)
section
variable {X:Cx}{Z:Zx}
theorem zay {e:Expr}{t t':TE}(h:PE X e t)(f:∀σ H Q,t' σ H Q→t σ H Q):PE X e t':=λpins s σ H Q I q=>h pins s σ H Q I (f σ H Q q)
theorem zel {e:Expr}{t t':TT}(h:PT X e t)(f:∀σ H Q,t' σ H Q→t σ H Q):PT X e t':=λpins s σ H Q I q=>h pins s σ H Q I (f σ H Q q)
theorem PWimp {e:Expr}{t t':TT}(h:PW X e t)(f:∀σ H Q,t' σ H Q→t σ H Q):PW X e t':=λwh pins s σ H Q I q=>h wh pins s σ H Q I (f σ H Q q)
theorem zfG {e:List Expr}{t t':TA}(h:PA X e t)(f:∀σ H Q,t' σ H Q→t σ H Q):PA X e t':=λpos pins s σ H Q I q=>h pos pins s σ H Q I (f σ H Q q)
theorem zb3 {e:Stmt}{t t':TS}(h:PS X e t)(f:∀F σ H,t' F σ H→t F σ H):PS X e t':=λpins s σ H F I q=>h pins s σ H F I (f F σ H q)
theorem zf1 {e:List Stmt}{t t':TS}(h:PSs X e t)(f:∀F σ H,t' F σ H→t F σ H):PSs X e t':=λpins s σ H F I q=>h pins s σ H F I (f F σ H q)
theorem PDW.pt {e:Expr}{t:TDT}(h:PDW X Z e t):PDT X Z e t:=PW.pt h
def zcK (i:Nat):TDE:=λdl S Q=>match dl[i]? with
 | some (some d)=>Q d S
 | _=>False
def dC (d:D):TDE:=λ_ S Q=>Q d S
theorem zkq {e:Expr}{i:Nat}(h:PE X e (tVar i)):PD X Z e (zcK i):=zay h λσ H Qv ⟨r,dl,S,Q,rs,rel,q,ret⟩=>by
 unfold zcK at q;split at q
 ·rename_i d e;obtain⟨v,h1,h2⟩:=rs.2 i d e;exact⟨v,h1,ret v H r d S Ext.refl rel h2 q⟩
 ·exact q.elim
theorem dv (i:Nat){x:Str}{pos:Pos}(hN:X.N[i]?=some x:=by rfl)(hv:Vis X.env.scope x:=by first | exact Or.inl rfl | exact Or.inr (Or.inl rfl) | exact Or.inr (Or.inr rfl))(hd:(x==("__debug__":Str))=false:=by decide)
  (hcd:(x==("__classdict__":Str))=false:=by decide):PD X Z (.Name x pos) (zcK i):=zkq (zc4 hN hv hd hcd)
theorem zdf {e:Expr}{d:D}{v:V}(h:PE X e (tC v))(q:∀r H,Rp r H d v):PD X Z e (dC d):=zay h λσ H Qv ⟨r,dl,S,Q,rs,rel,h,ret⟩=>ret v H r d S Ext.refl rel (q r H) h
theorem zad {i j pos}:PD X Z (.Constant (.int i) j pos) (dC (.int i)):=zdf zij λ_ _=>.int i
theorem zbJ {b j pos}:PD X Z (.Constant (.bool b) j pos) (dC (.bl b)):=zdf pe_bl λ_ _=>.bl b
theorem zhK {j pos}:PD X Z (.Constant .none j pos) (dC .non):=zdf ziZ λ_ _=>.non
theorem zcw {x j pos}:PD X Z (.Constant (.str x) j pos) (dC (.str x)):=zdf zhM λ_ _=>.str x
abbrev W2:=D→D→Sto→DK→Prop
abbrev W1:=D→Sto→DK→Prop
def upO (K:PySem.W.Frag)(Z:Zx)(w:W2):R2:=λx y H Qv=>∃r S dx dy Q,Rel K Z r S H∧Rp r H dx x∧Rp r H dy y∧w dx dy S Q∧Ret K Z r H Q Qv
def upU (K:PySem.W.Frag)(Z:Zx)(w:W1):V→Hp→VK→Prop:=λx H Qv=>∃r S dx Q,Rel K Z r S H∧Rp r H dx x∧w dx S Q∧Ret K Z r H Q Qv
def dOp (w:W2)(ta tb:TDE):TDE:=λdl S Q=>ta dl S λx S1=>tb dl S1 λy S2=>w x y S2 Q
def dUn (w:W1)(ta:TDE):TDE:=λdl S Q=>ta dl S λx S1=>w x S1 Q
variable {a b c:Expr}{ta tb tc:TDE}{pos:Pos}
theorem zdN {w:W2}{σ:St}{H:Hp}{Qv:VK}(h:up X.K Z (dOp w ta tb) σ H Qv):tOp (upO X.K Z w) (up X.K Z ta) (up X.K Z tb) σ H Qv:=by
 obtain⟨r,dl,S,Q,rs,rel,h,ret⟩:=h;exact⟨r,dl,S,_,rs,rel,h,λv H1 r1 dx S1 e1 rel1 p1 h1=>⟨r1,dl,S1,_,rs.ext e1,rel1,h1,λv2 H2 r2 dy S2 e2 rel2 p2 h2=>⟨r2,S2,dx,dy,Q,rel2,p1.ext e2,p2,h2,ret.ext (e1.trans e2)⟩⟩⟩
theorem zal {op:Operator}{w:W2}(ho:OpR X (binaryOp op) (upO X.K Z w))(ha:PD X Z a ta)(hb:PD X Z b tb):PD X Z (.BinOp a op b pos) (dOp w ta tb):=zay (pe_op ho ha hb) λ_ _ _ h=>zdN h
theorem zeK {op:UnaryOp}{w:W1}(ho:UnR X (unaryOp op) (upU X.K Z w))(ha:PD X Z a ta):PD X Z (.UnaryOp op a pos) (dUn w ta):=zay (pe_un ho ha) λσ H Qv ⟨r,dl,S,Q,rs,rel,h,ret⟩=>
 ⟨r,dl,S,_,rs,rel,h,λv H1 r1 dx S1 e1 rel1 p1 h1=>⟨r1,S1,dx,Q,rel1,p1,h1,ret.ext e1⟩⟩
theorem zcq {op:CmpOp}{w:W2}(ho:OpR X (compareOp op) (upO X.K Z w))(ha:PD X Z a ta)(hb:PD X Z b tb)(hm:behindInMarks op b=false):PD X Z (.Compare a [op] [b] pos) (dOp w ta tb):=zay (zjn ho ha hb hm) λ_ _ _ h=>zdN h
theorem zey {f:Value→Value→Sem Value}{r r':R2}(h:OpR X f r)(g:∀x y H Q,r' x y H Q→r x y H Q):OpR X f r':=λpins s σ H x y v u Q I rx ry q=>h pins s σ H x y v u Q I rx ry (g x y H Q q)
theorem ziY {f:Value→Sem Value}{r r':V→Hp→VK→Prop}(h:UnR X f r)(g:∀x H Q,r' x H Q→r x H Q):UnR X f r':=λpins s σ H x v Q I rx q=>h pins s σ H x v Q I rx (g x H Q q)
theorem zf7 {f:Value}{r r':List V→Hp→VK→Prop}(h:zaQ X f r)(g:∀x H Q,r' x H Q→r x H Q):zaQ X f r':=λpins s σ H xs us Q I rx q=>h pins s σ H xs us Q I rx (g xs H Q q)
def wI (C:Int→Int→Prop)(g:Int→Int→D):W2:=λx y S Q=>match x,y with
 | .int i,.int j=>C i j∧Q (g i j) S
 | _,_=>False
def wI0 (g:Int→Int→D):W2:=λx y S Q=>match x,y with
 | .int i,.int j=>Q (g i j) S
 | _,_=>False
theorem opD {f:Value→Value→Sem Value}{C:Int→Int→Prop}{g:Int→Int→V}{g':Int→Int→D}(h:OpR X f (rI C g))(hg:∀r H i j,Rp r H (g' i j) (g i j)):OpR X f (upO X.K Z (wI C g')):=
 zey h λx y H Qv ⟨r,S,dx,dy,Q,rel,px,py,q,ret⟩=>by
  cases px <;> cases py <;> first
   | exact⟨_,_,rfl,rfl,q.1,ret _ _ _ _ _ Ext.refl rel (hg _ _ _ _) q.2⟩
   | exact(show False from q).elim
theorem opD0 {f:Value→Value→Sem Value}{g:Int→Int→V}{g':Int→Int→D}(h:OpR X f (rI0 g))(hg:∀r H i j,Rp r H (g' i j) (g i j)):OpR X f (upO X.K Z (wI0 g')):=
 zey h λx y H Qv ⟨r,S,dx,dy,Q,rel,px,py,q,ret⟩=>by
  cases px <;> cases py <;> first
   | exact⟨_,_,rfl,rfl,ret _ _ _ _ _ Ext.refl rel (hg _ _ _ _) q⟩
   | exact(show False from q).elim
abbrev wAdd:W2:=wI0 λi j=>.int (i+j)
abbrev wSub:W2:=wI0 λi j=>.int (i-j)
abbrev wMul:W2:=wI IntMulOk λi j=>.int (i*j)
def CFd (_ j:Int):Prop:=0<j∧j.natAbs.log2<9000
abbrev wFdiv:W2:=wI CFd λi j=>.int (i/j)
def CFn (_ j:Int):Prop:=j≠0∧j.natAbs.log2<9000
abbrev zi2:W2:=wI CFn λi j=>.int (i.fdiv j)
abbrev wMod:W2:=wI (λ_ j=>0<j) λi j=>.int (i%j)
abbrev wPow:W2:=wI CPow λi j=>.int (i^j.toNat)
theorem zbp:OpR X (binaryOp .Add) (upO X.K Z wAdd):=opD0 zhc λ_ _ _ _=>.int _
theorem zdn:OpR X (binaryOp .Sub) (upO X.K Z wSub):=opD0 zj5 λ_ _ _ _=>.int _
theorem zci:OpR X (binaryOp .Mult) (upO X.K Z wMul):=opD (opI λ_ _ _ _ _ _ _ hc q=>mul_int q hc) λ_ _ _ _=>.int _
theorem zdI:OpR X (binaryOp .FloorDiv) (upO X.K Z wFdiv):=opD (opI λi j _ _ _ _ _ hc q=>floordiv_int (by have h:0<j:=hc.1; omega) (by have h:0<j:=hc.1; rw[Int.fdiv_eq_ediv_of_nonneg i (by omega)]; exact q) (.inl (PyProof.noPylong_of_log2 hc.2))) λ_ _ _ _=>.int _
theorem zgL:OpR X (binaryOp .FloorDiv) (upO X.K Z zi2):=opD (opI λ_ _ _ _ _ _ _ hc q=>floordiv_int hc.1 q (.inl (PyProof.noPylong_of_log2 hc.2))) λ_ _ _ _=>.int _
theorem zcF:OpR X (binaryOp .Mod) (upO X.K Z wMod):=opD ziQ λ_ _ _ _=>.int _
theorem zjT:OpR X (binaryOp .Pow) (upO X.K Z wPow):=opD zj4 λ_ _ _ _=>.int _
abbrev wLt:W2:=wI0 λi j=>.bl (decide (i<j))
theorem zc5:OpR X (compareOp .Lt) (upO X.K Z wLt):=opD0 op_lt λ_ _ _ _=>.bl _
def wNeg:W1:=λx S Q=>match x with
 | .int i=>Q (.int (-i)) S
 | _=>False
theorem zem:UnR X (unaryOp .USub) (upU X.K Z wNeg):=ziY zjy λx H Qv ⟨r,S,dx,Q,rel,px,q,ret⟩=>by
 cases px <;> first
  | exact⟨_,rfl,ret _ _ _ _ _ Ext.refl rel (.int _) q⟩
  | exact(show False from q).elim
end
def eqF:D→D→Option Bool
 | .non,.non=>some true
 | .bl i,.bl j=>some (i==j)
 | .int i,.int j=>some (decide (i=j))
 | .str i,.str j=>some (decide (i=j))
 | .non,.int _=>some false | .int _,.non=>some false | .non,.bl _=>some false | .bl _,.non=>some false | .non,.str _=>some false | .str _,.non=>some false
 | .int _,.str _=>some false | .str _,.int _=>some false | .bl _,.str _=>some false | .str _,.bl _=>some false
 | _,_=>none
def eqL (f:D→D→Option Bool):List D→List D→Option Bool
 | [],[]=>some true
 | x::xs,y::ys=>match f x y,eqL f xs ys with
  | some b,some c=>some (b&&c)
  | _,_=>none
 | _,_=>some false
def eqT (f:D→D→Option Bool):D→D→Option Bool
 | .tup xs,.tup ys=>eqL f xs ys
 | x,y=>eqF x y
abbrev eq1:D→D→Option Bool:=eqT eqF
abbrev eq2:D→D→Option Bool:=eqT eq1
def zbC (n:Nat)(f:D→D→Option Bool):Prop:=∀(X:Cx) (pins:List (Addr×Obj)) (σ:St) (H:Hp) (s:Shared) (r:List Addr) (A:Around) (dx dy:D) (x y:V) (u v:Value) (b:Bool),
 Inv X pins σ H s→A.units+n<cLine→Rp r H dx x→Rp r H dy y→zab x u→zab y v→f dx dy=some b→SeqAt.EqAt A s u v b
def zb0 (f:D→D→Option Bool):Prop:=∀(r:List Addr) (H:Hp) (dx dy:D) (x:V) (b:Bool),Rp r H dx x→Rp r H dy x→f dx dy=some b→b=true
theorem zcc:zb0 eqF:=by
 intro r H dx dy x b px py e;cases px <;> cases py <;> simp[eqF] at e <;> first | exact e.symm | exact e
theorem zfk {f:D→D→Option Bool}(hf:zb0 f){r:List Addr}{H:Hp}:∀ {xs ys:List D} {vs:List V} {b:Bool},Rps r H xs vs→Rps r H ys vs→eqL f xs ys=some b→b=true
 | [],[],_,b,_,_,e=>by simp[eqL] at e; exact e
 | [],y::ys,vs,b,p,q,e=>by
  have h1:=p.unnil;subst h1;exact absurd q.1 (by simp)
 | x::xs,[],vs,b,p,q,e=>by
  have h1:=q.unnil;subst h1;exact absurd p.1 (by simp)
 | x::xs,y::ys,vs,b,p,q,e=>by
  obtain⟨v,vs',rfl,p1,p2⟩:=p.uncons;obtain⟨q1,q2⟩:=q.tail;unfold eqL at e;split at e
  ·rename_i b1 c1 e1 e2;have h1:=hf r H x y v b1 p1 q1 e1
   have h2:=zfk hf p2 q2 e2;subst h1; subst h2
   simp at e;exact e
  ·cases e
theorem zgB {f:D→D→Option Bool}(hf:zb0 f):zb0 (eqT f):=by
 intro r H dx dy x b px py e;cases px with
 | tup e1 l1 f1=>
  cases py with
  | tup e2 l2 f2=>
   rw[e1] at e2; cases e2
   exact zfk hf ⟨l1,f1⟩ ⟨l2,f2⟩ e
  | ref h=>simp[eqT,eqF] at e
  | xw h h2'=>simp[eqT,eqF] at e
  | exc h=>simp[eqT,eqF] at e
 | non=>exact zcc r H _ _ _ b .non py (by cases py <;> exact e)
 | bl i=>exact zcc r H _ _ _ b (.bl i) py (by cases py <;> exact e)
 | int i=>exact zcc r H _ _ _ b (.int i) py (by cases py <;> exact e)
 | str i=>exact zcc r H _ _ _ b (.str i) py (by cases py <;> exact e)
 | ref h=>cases py <;> simp[eqT,eqF] at e
 | xw h h2'=>cases py <;> simp[eqT,eqF] at e
 | exc h=>cases py <;> simp[eqT,eqF] at e
theorem zeu (n:Nat):zbC n eqF:=by
 intro X pins σ H s r A dx dy x y u v b I hu px py rx ry e;have fin:∀ {x y:V},zab x u→zab y v→zdt x=true→zdt y=true→eqV x y=b→SeqAt.EqAt A s u v b:=λrx ry fx fy e'=>by
  subst e'; exact zh9 rx ry fx fy
 cases px <;> cases py <;> simp[eqF] at e <;> refine fin rx ry rfl rfl ?_ <;> simp[eqV,e] <;> first | exact e | (subst e; simp) | skip
theorem zb4 {X:Cx}{pins:List (Addr×Obj)}{σ:St}{H:Hp}{s:Shared}{a:Addr}{xs:List V}(I:Inv X pins σ H s)(h:H a=some (.tup xs)):∃its:List Value,zac xs its∧IsTup s.heap a its.toArray∧xs.length≤sizeLine:=I.tuple (SqT.of h)
def za4 (f:D→D→Option Bool)(xs ys:List D)(j:Nat):Bool:=match xs[j]?,ys[j]? with
 | some x,some y=>(f x y).getD false
 | _,_=>false
theorem zfm {f:D→D→Option Bool}:∀ {xs ys:List D} {b:Bool},eqL f xs ys=some b→(∀(j:Nat) (x y:D),xs[j]?=some x→ys[j]?=some y→∃c,f x y=some c)∧((List.range (min xs.length ys.length)).all (za4 f xs ys)&&xs.length==ys.length)=b
 | [],[],b,e=>by simp[eqL] at e; subst e; simp
 | [],y::ys,b,e=>by simp[eqL] at e; subst e; simp
 | x::xs,[],b,e=>by simp[eqL] at e; subst e; simp
 | x::xs,y::ys,b,e=>by
  unfold eqL at e;split at e
  ·rename_i b1 c1 e1 e2;obtain⟨h1,h2⟩:=zfm e2;refine⟨λj p q hp hq=>?_,?_⟩
   ·cases j with
    | zero=>simp at hp hq; subst hp; subst hq; exact⟨b1,e1⟩
    | succ j=>exact h1 j p q (by simpa using hp) (by simpa using hq)
   ·have z:min (x::xs).length (y::ys).length=min xs.length ys.length+1:=by simp[Nat.succ_min_succ]
    rw[z,List.range_succ_eq_map,List.all_cons,List.all_map];have e0:za4 f (x::xs) (y::ys) 0=b1:=by simp[za4,e1]
    have es:(za4 f (x::xs) (y::ys) ∘ Nat.succ)=za4 f xs ys:=by funext j; simp[za4]
    rw[e0,es];have e3:((x::xs).length==(y::ys).length)=(xs.length==ys.length):=by simp
    rw[e3,Bool.and_assoc,h2];simp at e;exact e
  ·cases e
theorem zdB {n:Nat}{f:D→D→Option Bool}(hf:zbC n f){X:Cx}{pins:List (Addr×Obj)}{σ:St}{H:Hp}{s:Shared}{r:List Addr}{A:Around}{xs ys:List D}{us vs:List V}{is js:List Value}{b:Bool}
  (I:Inv X pins σ H s)(hu:A.units+n<cLine)(p:Rps r H xs us)(q:Rps r H ys vs)(ri:zac us is)(rj:zac vs js)(e:eqL f xs ys=some b):
  (∀j (h1:j<is.toArray.size) (h2:j<js.toArray.size),SeqAt.EqAt A s is.toArray[j] js.toArray[j] (za4 f xs ys j))∧((List.range (min is.toArray.size js.toArray.size)).all (za4 f xs ys)&&is.toArray.size==js.toArray.size)=b:=by
 obtain⟨h1,h2⟩:=zfm e;have l1:is.toArray.size=xs.length:=by rw[Vaj,← ri.length,p.1]
 have l2:js.toArray.size=ys.length:=by rw[Vaj,← rj.length,q.1]
 refine⟨λj hj1 hj2=>?_,by rw[l1,l2]; exact h2⟩;have k1:j<xs.length:=by omega
 have k2:j<ys.length:=by omega
 have g1:xs[j]?=some xs[j]:=by simp[k1]
 have g2:ys[j]?=some ys[j]:=by simp[k2]
 obtain⟨x,gx,px⟩:=p.get g1;obtain⟨y,gy,py⟩:=q.get g2;obtain⟨u,gu,ru⟩:=ri.get gx;obtain⟨v,gv,rv⟩:=rj.get gy;obtain⟨c,hc⟩:=h1 j _ _ g1 g2;have eu:is.toArray[j]=u:=by
  have z:=Vad.mp gu;simpa using z.2
 have ev:js.toArray[j]=v:=by
  have z:=Vad.mp gv;simpa using z.2
 have ec:za4 f xs ys j=c:=by simp[za4,g1,g2,hc]
 rw[eu,ev,ec];exact hf X pins σ H s r A _ _ x y u v c I hu px py ru rv hc
theorem zgk {n:Nat}{f:D→D→Option Bool}(hf:zbC n f)(hs:zb0 f):zbC (n+1) (eqT f):=by
 intro X pins σ H s r A dx dy x y u v b I hu px py rx ry e;have zao:∀ {dx dy:D} {x y:V},Rp r H dx x→Rp r H dy y→zab x u→zab y v→eqF dx dy=some b→SeqAt.EqAt A s u v b:=λpx py rx ry e=>zeu (n+1) X pins σ H s r A _ _ _ _ u v b I hu px py rx ry e
 cases px with
 | @tup ds xs a e1 l1 f1=>
  cases py with
  | @tup es ys a' e2 l2 f2=>
   cases rx;cases ry;by_cases z:a=a'
   ·subst z;have hb:=zgB hs r H _ _ _ b (.tup e1 l1 f1) (.tup e2 l2 f2) e;subst hb;exact SeqAt.EqAt.same _
   ·obtain⟨is,ri,ti,_⟩:=zb4 I e1;obtain⟨js,rj,tj,_⟩:=zb4 I e2;obtain⟨g1,g2⟩:=zdB (A:=A.in1) hf I (by show A.units+1+n<_; omega) ⟨l1,f1⟩ ⟨l2,f2⟩ ri rj e;have q:=SeqAt.RcAt.tuples (A:=A) ti tj (by omega) g1;rw[g2] at q;exact SeqAt.EqAt.of_refs z q
  | ref h=>simp[eqT,eqF] at e
  | _=>simp[eqT,eqF] at e
 | non=>exact zao .non py rx ry (by cases py <;> exact e)
 | bl i=>exact zao (.bl i) py rx ry (by cases py <;> exact e)
 | int i=>exact zao (.int i) py rx ry (by cases py <;> exact e)
 | str i=>exact zao (.str i) py rx ry (by cases py <;> exact e)
 | ref h=>cases py <;> simp[eqT,eqF] at e
 | xw h h2'=>cases py <;> simp[eqT,eqF] at e
 | exc h=>cases py <;> simp[eqT,eqF] at e
theorem ze4 (n:Nat):zbC (n+1) eq1:=zgk (zeu n) zcc
def wEq (f:D→D→Option Bool):W2:=λx y S Q=>match f x y with
 | some b=>Q (.bl b) S
 | none=>False
def wNe (f:D→D→Option Bool):W2:=λx y S Q=>match f x y with
 | some b=>Q (.bl (!b)) S
 | none=>False
section
variable {X:Cx}{Z:Zx}
theorem zgl {r:List Addr}{H:Hp}{dx dy:D}{x y:V}{b:Bool}(px:Rp r H dx x)(py:Rp r H dy y)(e:eqF dx dy=some b):zdP x y=true∧decide (x=y)=b:=by
 cases px <;> cases py <;> simp[eqF] at e <;> simp[zdP] <;> first | exact e | (subst e; simp) | skip
theorem zeC {n:Nat}{f:D→D→Option Bool}(hf:zbC n f)(hu:X.A.units+1+n<cLine):OpR X (compareOp .Eq) (upO X.K Z (wEq (eqT f))):=by
 intro pins s σ H x y v u Qv I rx ry h;obtain⟨r,S,dx,dy,Q,rel,px,py,q,ret⟩:=h;unfold wEq at q;split at q
 ·rename_i b e;have zao:∀ {dx dy:D} {x y:V},Rp r H dx x→Rp r H dy y→zab x v→zab y u→eqF dx dy=some b→wpAny (model X.prog X.w) X.A (compareOp .Eq v u) (EP X pins σ Qv) X.xe s:=λpx py rx ry e=>by
   obtain⟨h1,h2⟩:=zgl px py e;refine zeL pins s σ H _ _ v u Qv I rx ry ⟨h1,?_⟩;rw[h2];exact ret _ _ _ _ _ Ext.refl rel (.bl b) q
  cases px with
  | @tup ds xs a e1 l1 f1=>
   cases py with
   | @tup es ys a' e2 l2 f2=>
    cases rx;cases ry;obtain⟨is,ri,ti,_⟩:=zb4 I e1;obtain⟨js,rj,tj,_⟩:=zb4 I e2;obtain⟨g1,g2⟩:=zdB (A:=X.A.in1) hf I (by show X.A.units+1+n<_; omega) ⟨l1,f1⟩ ⟨l2,f2⟩ ri rj e;refine SeqAt.eq_tupleAt (A:=X.A) ti tj (by omega) g1 ?_;rw[g2];exact⟨.bl b,H,I,rfl,ret _ _ _ _ _ Ext.refl rel (.bl b) q⟩
   | _=>simp[eqT,eqF] at e
  | non=>exact zao .non py rx ry (by cases py <;> exact e)
  | bl i=>exact zao (.bl i) py rx ry (by cases py <;> exact e)
  | int i=>exact zao (.int i) py rx ry (by cases py <;> exact e)
  | str i=>exact zao (.str i) py rx ry (by cases py <;> exact e)
  | ref h=>cases py <;> simp[eqT,eqF] at e
  | xw h h2'=>cases py <;> simp[eqT,eqF] at e
  | exc h=>cases py <;> simp[eqT,eqF] at e
 ·exact q.elim
theorem ziT {n:Nat}{f:D→D→Option Bool}(hf:zbC n f)(hu:X.A.units+1+n<cLine):OpR X (compareOp .NotEq) (upO X.K Z (wNe (eqT f))):=by
 intro pins s σ H x y v u Qv I rx ry h;obtain⟨r,S,dx,dy,Q,rel,px,py,q,ret⟩:=h;unfold wNe at q;split at q
 ·rename_i b e;have zao:∀ {dx dy:D} {x y:V},Rp r H dx x→Rp r H dy y→zab x v→zab y u→eqF dx dy=some b→wpAny (model X.prog X.w) X.A (compareOp .NotEq v u) (EP X pins σ Qv) X.xe s:=λpx py rx ry e=>by
   obtain⟨h1,h2⟩:=zgl px py e;refine op_ne pins s σ H _ _ v u Qv I rx ry ⟨h1,?_⟩;rw[h2];exact ret _ _ _ _ _ Ext.refl rel (.bl (!b)) q
  cases px with
  | @tup ds xs a e1 l1 f1=>
   cases py with
   | @tup es ys a' e2 l2 f2=>
    cases rx;cases ry;obtain⟨is,ri,ti,_⟩:=zb4 I e1;obtain⟨js,rj,tj,_⟩:=zb4 I e2;obtain⟨g1,g2⟩:=zdB (A:=X.A.in1) hf I (by show X.A.units+1+n<_; omega) ⟨l1,f1⟩ ⟨l2,f2⟩ ri rj e;refine SeqAt.RcNeAt.tuples (A:=X.A) ti tj (by omega) g1 X.prog X.w _ _ ?_;rw[g2];exact⟨.bl (!b),H,I,rfl,ret _ _ _ _ _ Ext.refl rel (.bl (!b)) q⟩
   | _=>simp[eqT,eqF] at e
  | non=>exact zao .non py rx ry (by cases py <;> exact e)
  | bl i=>exact zao (.bl i) py rx ry (by cases py <;> exact e)
  | int i=>exact zao (.int i) py rx ry (by cases py <;> exact e)
  | str i=>exact zao (.str i) py rx ry (by cases py <;> exact e)
  | ref h=>cases py <;> simp[eqT,eqF] at e
  | xw h h2'=>cases py <;> simp[eqT,eqF] at e
  | exc h=>cases py <;> simp[eqT,eqF] at e
 ·exact q.elim
theorem zbq {k:Nat}(hr:zan k X.A):OpR X (compareOp .Eq) (upO X.K Z (wEq eq2)):=zeC (ze4 0) (by have:=hr.un; omega)
theorem zfl {k:Nat}(hr:zan k X.A):OpR X (compareOp .NotEq) (upO X.K Z (wNe eq2)):=ziT (ze4 0) (by have:=hr.un; omega)
end
section
variable {X:Cx}{Z:Zx}{a b c:Expr}{ta tb tc:TDE}{pos:Pos}{zaz:List Expr}
def zc6 (t:TDE):TDT:=λdl S Q=>t dl S λd S'=>match d with
 | .bl k=>Q k S'
 | _=>False
theorem zfs {K:PySem.W.Frag}{Z:Zx}{r:List Addr}{H:Hp}{Q:Bool→Sto→Prop}{Qb:Bool→Hp→Prop}(h:∀b H' r' S',Ext r r' H H'→Rel K Z r' S' H'→Q b S'→Qb b H'):
  Ret K Z r H (λd S'=>match d with | .bl k=>Q k S' | _=>False) (λx H'=>∃k,x=.bl k∧Qb k H'):=λv H' r' d S' e rel p q=>by
 cases p with
 | bl k=>exact⟨k,rfl,h k H' r' S' e rel q⟩
 | _=>exact(show False from q).elim
theorem zaX {op:CmpOp}{w:W2}(ho:OpR X (compareOp op) (upO X.K Z w))(ha:PD X Z a ta)(hb:PD X Z b tb)(hm:behindInMarks op b=false):PDT X Z (.Compare a [op] [b] pos) (zc6 (dOp w ta tb)):=
 zel (zhq ho ha hb hm) λσ H Qb ⟨r,dl,S,Q,rs,rel,h,ret⟩=>zdN ⟨r,dl,S,_,rs,rel,h,zfs ret⟩
theorem zcG {e:Expr}{t:TDE}(h:PD X Z e t)(he:∀whole,isTrue e X.env whole=(do let v ← whole; standAt e.pos; holding [v] (truthy v)):=by intro _; rfl):PDT X Z e (zc6 t):=
 zel (zg9 h he) λσ H Qb ⟨r,dl,S,Q,rs,rel,h,ret⟩=>⟨r,dl,S,_,rs,rel,h,zfs ret⟩
def dNot (t:TDT):TDT:=λdl S Q=>t dl S λk S'=>Q (!k) S'
theorem zc1 {t:TDT}(ha:PDT X Z a t):PDT X Z (.UnaryOp .Not a pos) (dNot t):=
 zel (zjm ha) λσ H Qb ⟨r,dl,S,Q,rs,rel,h,ret⟩=>⟨r,dl,S,_,rs,rel,h,λk H' r' S' e rel' q=>ret (!k) H' r' S' e rel' q⟩
def dAnd (t u:TDT):TDT:=λdl S Q=>t dl S λk S1=>if k=true then u dl S1 Q else Q false S1
def dOr (t u:TDT):TDT:=λdl S Q=>t dl S λk S1=>if k=true then Q true S1 else u dl S1 Q
theorem zf9 {t:TDT}(ha:PDT X Z a t):PDW X Z (.BoolOp .Or [a] pos) t:=zjN ha
theorem ze7 {t u:TDT}(ha:PDT X Z a t)(hb:PDW X Z (.BoolOp .Or (b::zaz) pos) u):PDW X Z (.BoolOp .Or (a::b::zaz) pos) (dOr t u):=
 PWimp (pw_or ha hb) λσ H Qb ⟨r,dl,S,Q,rs,rel,h,ret⟩=>⟨r,dl,S,_,rs,rel,h,λk H1 r1 S1 e1 rel1 q1=>by
  cases k with
  | true=>exact zbY (ret true H1 r1 S1 e1 rel1 (by simpa using q1))
  | false=>exact zbM ⟨r1,dl,S1,Q,rs.ext e1,rel1,(by simpa using q1),λk' H2 r2 S2 e2=>ret k' H2 r2 S2 (e1.trans e2)⟩⟩
def zev (ta tb:TDE):TDE:=λdl S Q=>ta dl S λx S1=>match x with
 | .bl k=>if k=true then tb dl S1 Q else Q (.bl false) S1
 | _=>False
def dOrV (ta tb:TDE):TDE:=λdl S Q=>ta dl S λx S1=>match x with
 | .bl k=>if k=true then Q (.bl true) S1 else tb dl S1 Q
 | _=>False
def ze9 (ta:TDE):TDE:=λdl S Q=>ta dl S λx S1=>match x with
 | .bl k=>Q (.bl (!k)) S1
 | _=>False
theorem zfB {op}{t:TDE}(h:PD X Z a t):PD X Z (.BoolOp op [a] pos) t:=zjd h
theorem zeM (ha:PD X Z a ta)(hb:PD X Z (.BoolOp .And (b::zaz) pos) tb):PD X Z (.BoolOp .And (a::b::zaz) pos) (zev ta tb):=
 zay (ziM ha hb) λσ H Qv ⟨r,dl,S,Q,rs,rel,h,ret⟩=>⟨r,dl,S,_,rs,rel,h,λv H1 r1 d S1 e1 rel1 p q1=>by
  cases p with
  | bl k=>
   refine⟨k,rfl,?_⟩;cases k with
   | true=>exact zbY ⟨r1,dl,S1,Q,rs.ext e1,rel1,(by simpa using q1),ret.ext e1⟩
   | false=>exact zbM (ret _ H1 r1 (.bl false) S1 e1 rel1 (.bl false) (by simpa using q1))
  | _=>exact(show False from q1).elim⟩
theorem zki (ha:PD X Z a ta):PD X Z (.UnaryOp .Not a pos) (ze9 ta):=
 zay (zi9 ha) λσ H Qv ⟨r,dl,S,Q,rs,rel,h,ret⟩=>⟨r,dl,S,_,rs,rel,h,λv H1 r1 d S1 e1 rel1 p q1=>by
  cases p with
  | bl k=>exact⟨k,rfl,ret _ H1 r1 (.bl (!k)) S1 e1 rel1 (.bl (!k)) q1⟩
  | _=>exact(show False from q1).elim⟩
def dIfE (t:TDT)(ta tb:TDE):TDE:=λdl S Q=>t dl S λk S1=>if k=true then ta dl S1 Q else tb dl S1 Q
def zgM (w w':W2)(ta tb tc:TDE):TDE:=λdl S Q=>ta dl S λx S1=>tb dl S1 λy S2=>w x y S2 λz S3=>match z with
 | .bl k=>if k=true then tc dl S3 λu S4=>w' y u S4 Q else Q (.bl false) S3
 | _=>False
def zfr:D→Bool
 | .non=>true
 | _=>false
def wIsN:W2:=λx y S Q=>match y with
 | .non=>Q (.bl (zfr x)) S
 | _=>False
def zfU:W2:=λx y S Q=>match y with
 | .non=>Q (.bl (!zfr x)) S
 | _=>False
variable {e:Expr}{es:List Expr}
def dNil:TDA:=λ_ S Q=>Q [] S
def ze5 (ta:TDE)(tr:TDA):TDA:=λdl S Q=>ta dl S λx S1=>tr dl S1 λxs S2=>Q (x::xs) S2
theorem zaj:PDA X Z [] dNil:=zfG zc7 λσ H Qv ⟨r,dl,S,Q,rs,rel,h,ret⟩=>ret [] H r [] S Ext.refl rel Rps.nil h
theorem zaa {te:TDE}{t:TDA}(ha:PD X Z e te)(hr:PDA X Z es t)(hs:starEach (e::es) X.env=(false,eval e X.env)::starEach es X.env:=by rfl):PDA X Z (e::es) (ze5 te t):=
 zfG (zbP ha hr hs) λσ H Qv ⟨r,dl,S,Q,rs,rel,h,ret⟩=>⟨r,dl,S,_,rs,rel,h,λv H1 r1 d S1 e1 rel1 p1 h1=>⟨r1,dl,S1,_,rs.ext e1,rel1,h1,λvs H2 r2 ds S2 e2 rel2 p2 h2=>
  ret (v::vs) H2 r2 (d::ds) S2 (e1.trans e2) rel2 (Rps.cons (p1.ext e2) p2) h2⟩⟩
def dTup (t:TDA):TDE:=λdl S Q=>t dl S λds S1=>if ds.length≤1000 then Q (.tup ds) S1 else False
def dLst (t:TDA):TDE:=λdl S Q=>t dl S λds S1=>if ds.length≤1000 then Q (.ref S1.length) (S1++[.lst ds]) else False
theorem zdU {A:Prop}{p:Prop} [Decidable p] (h:if p then A else False):p∧A:=by
 split at h
 ·exact⟨by assumption,h⟩
 ·exact h.elim
theorem zeV {n:Nat}(h:n≤1000):n≤sizeLine:=Vaw (zek h)
theorem zbF {x1}{t:TDA}(h:PDA X Z es t):PD X Z (.Tuple es x1 pos) (dTup t):=
 zay (ziU h) λσ H Qv ⟨r,dl,S,Q,rs,rel,h,ret⟩=>⟨r,dl,S,_,rs,rel,h,λvs H1 r1 ds S1 e1 rel1 p1 h1=>by
  obtain⟨hl,h1⟩:=zdU h1;refine⟨by rw[← p1.1]; exact zeV hl,λp hp=>?_⟩;have x:Ext r1 r1 H1 (upd H1 p (.tup vs)):=⟨λ_ _ q=>q,λa xs q=>zbm hp _ _ q,λa c q=>zbm hp _ _ q⟩;exact ret _ _ r1 (.tup ds) S1 (e1.trans x) (rel1.same (zbm hp)) ((p1.ext x).tupR zaI) h1⟩
theorem zjz {r:List Addr}{p:Addr}{H:Hp}{n:Nat}(h:r.length=n):Rp (r++[p]) H (.ref n) (.ref p):=.ref (by subst h; simp)
theorem zfh {t:TDA}(h:PDA X Z es t):PD X Z (.List es pos) (dLst t):=
 zay (zjS h) λσ H Qv ⟨r,dl,S,Q,rs,rel,h,ret⟩=>⟨r,dl,S,_,rs,rel,h,λvs H1 r1 ds S1 e1 rel1 p1 h1=>by
  obtain⟨hl,h1⟩:=zdU h1;refine⟨by rw[← p1.1]; exact zeV hl,λp hp=>?_⟩;obtain⟨rel2,x⟩:=rel1.push hp p1;exact ret _ _ _ (.ref S1.length) _ (e1.trans x) rel2 (zjz rel1.len) h1⟩
def wIx:W2:=λx y S Q=>match x,y with
 | .tup xs,.int i=>match atI xs i with
  | some d=>Q d S
  | none=>False
 | .ref n,.int i=>match lAt S n with
  | some o=>match atI (zaB o) i with
   | some d=>Q d S
   | none=>False
  | none=>False
 | _,_=>False
theorem zfF {r:List Addr}{H:Hp}{ds:List D}{vs:List V}{i:Int}{d:D}(h:Rps r H ds vs)(e:atI ds i=some d):∃v,atI vs i=some v∧Rp r H d v:=by
  unfold atI at e ⊢;rw[← h.1];cases q:ixN ds.length i with
  | none=>
   rw[q] at e;cases e
  | some j=>
    rw[q] at e;exact h.get e
theorem do_ix:IxR X (upO X.K Z wIx):=by
 intro value slice pins s σ H x y v u Qv I rx ry h hs;obtain⟨r,S,dx,dy,Q,rel,px,py,q,ret⟩:=h;cases px with
 | @tup ds xs a e1 l1 f1=>
  cases py with
  | int i=>
   have q':(match atI ds i with | some d=>Q d S | none=>False):=q;split at q'
   ·rename_i d e;obtain⟨w,hw,pw⟩:=zfF ⟨l1,f1⟩ e;exact zjh value slice pins s σ H _ _ v u Qv I rx ry ⟨a,xs,i,w,rfl,rfl,SqT.of e1,hw,ret w H r d S Ext.refl rel pw q'⟩ hs
   ·exact q'.elim
  | _=>exact(show False from q).elim
 | @ref n a e1=>
  cases py with
  | int i=>
   have q':(match lAt S n with | some o=>(match atI (zaB o) i with | some d=>Q d S | none=>False) | none=>False):=q;split at q'
   ·rename_i o eo;obtain⟨eo,eL⟩:=zbz eo;obtain⟨a',ha,ob⟩:=rel.at eo;rw[e1] at ha; cases ha
    obtain⟨xs,sq,pr⟩:=ob.list eL;split at q'
    ·rename_i d e;obtain⟨w,hw,pw⟩:=zfF pr e;exact zjl value slice pins s σ H _ _ v u Qv I rx ry ⟨a,xs,i,w,rfl,rfl,sq,hw,ret w H r d S Ext.refl rel pw q'⟩ hs
    ·exact q'.elim
   ·exact q'.elim
  | _=>exact(show False from q).elim
 | _=>exact(show False from q).elim
theorem zaK (ha:PD X Z a ta)(hb:PD X Z b tb)(hs:zfo b):PD X Z (.Subscript a b pos) (dOp wIx ta tb):=zay (pe_ix do_ix ha hb hs) λ_ _ _ h=>zdN h
end
theorem zft {P:Program}{w:World}{H:Hp}{h:Heap}{a:Addr}:∀ {o:HO},zaC P w H h a o→∃ob,h.get? a=some ob
 | .lst _,x=>by obtain⟨_,_,_,_,e⟩:=x; exact⟨_,e⟩
 | .tup _,x=>by obtain⟨_,_,_,ob,e,_⟩:=x; exact⟨ob,e⟩
 | .dK _,x=>by obtain⟨_,_,_,_,ob,_,_,e,_⟩:=x; exact⟨ob,e⟩
 | .dT _,x=>by obtain⟨_,_,_,_,ob,_,_,e,_⟩:=x; exact⟨ob,e⟩
 | .set _ _,x=>by obtain⟨ob,_,_,_,e,_⟩:=x; exact⟨ob,e⟩
 | .ins _ _ _,x=>by obtain⟨_,_,_,e,_⟩:=x; exact⟨_,e⟩
 | .own _,x=>x
 | .xd _,x=>by obtain⟨_,⟨ob,_,_,e,_⟩,_⟩:=x; exact⟨ob,e⟩
 | .rng _ _,x=>by obtain⟨_,_,_,e⟩:=x; exact⟨_,e⟩
 | .frz ob _,x=>⟨ob,x.1⟩
 | .tbl _,x=>⟨_,x⟩
 | .met _ _,x=>⟨_,x⟩
 | .ext _,x=>x.2.1
structure Bk (fs:List Addr)(H H':Hp)(B h:Heap)(ea:Addr):Prop where
 trk:∀b u,H' b=some u→∃o,B.get? b=some o
 old:∀b o,h.get? b=some o→H b=none→b ∉ fs→B.get? b=some o
 all:∀b o,h.get? b=some o→b ∉ fs→∃o',B.get? b=some o'
 new:H' ea=none
def CXE (P:Program)(w:World):CXT:=λouter H s E e s'=>∃(ea c:Addr) (a0:Value) (B:Heap) (H':Hp),e=.ref ea∧s'.os=s.os∧AllBare s'.gens∧Un (frs outer) [] H H' s.heap s'.heap∧HOk P w H' s'.heap∧
 za7 B outer ea (.ref c) a0 s'.heap∧Bk (frs outer) H H' B s.heap ea∧E (.ref c) none H'
theorem zeq {P:Program}{w:World}{H':Hp}{B h h':Heap}(ok:HOk P w H' h)(trk:∀b u,H' b=some u→∃o,B.get? b=some o)(s1:B.StaysIn h)(s2:B.StaysIn h'):HOk P w H' h':=λa o e=>
 (ok a o e).stay (λb u hb q=>by
  have ht:∃z,H' b=some z:=by
   rcases hb with rfl | hb
   ·exact⟨o,e⟩
   ·exact⟨_,hb⟩
  obtain⟨z,hz⟩:=ht;obtain⟨ob,eo⟩:=trk b z hz;have:=s1 b ob eo;rw[q] at this;cases this;exact s2 b u eo) (λ_ z=>z) λ_ _ z=>z
section
variable {X:Cx}{pins:List (Addr×Obj)}{σ:St}{H:Hp}{s:Shared}
theorem zbt {b:Addr}(I:Inv X pins σ H s)(hs:X.stack=X.env::X.outer)(hf:X.env.frame=some X.env.locals):b∈frs X.stack↔b=X.env.locals∨b∈X.fs:=by
 rw[hs];unfold frs;rw[VaE,hf];exact Vah
theorem zfW {H':Hp}{B h':Heap}{s':Shared}{ea c:Addr}{a0:Value}(I:Inv X pins σ H s)(hex:X.ex=[])(hs:X.stack=X.env::X.outer)(hf:X.env.frame=some X.env.locals)
  (un:Un (frs X.stack) [] H H' s.heap s'.heap)(fl:Heap.FlyingW B (X.env::X.outer) ea (.ref c) a0 s'.heap)(fl':Heap.FlyingW B X.outer ea (.ref c) a0 h')(up:s'.heap.UpToSlots h')(bk:Bk (frs X.stack) H H' B s.heap ea):
  Un X.fs [] X.H₀ H' X.s₀.heap h'∧Bk X.fs X.H₀ H' B X.s₀.heap ea:=by
 have nx:∀b:Addr,b ∉ X.ex:=λb z=>by rw[hex] at z; exact absurd z (by simp)
 have nL:∀ {b:Addr} {o:Obj},X.s₀.heap.get? b=some o→b≠X.env.locals:=λ{b o} e=>Vab (Vaa (Heap.lt_size e) I.ok.above)
 have nS:∀ {b:Addr} {o:Obj},X.s₀.heap.get? b=some o→b ∉ X.fs→b ∉ frs X.stack:=λ{b o} e hb z=>by
  rcases (zbt I hs hf).mp z with z | z
  ·exact nL e z
  ·exact hb z
 have old:∀b o,X.s₀.heap.get? b=some o→X.H₀ b=none→b ∉ X.fs→B.get? b=some o:=λb o e n hb=>bk.old b o (I.base.keep b o e n hb (nx b)) (I.base.free b o e n (nx b)) (nS e hb)
 have slot:∀b o,X.s₀.heap.get? b=some o→X.H₀ b=none→b∈X.fs→∃sl,h'.get? b=some { o with slots:=sl }:=λb o e n hb=>by
  obtain⟨s1,e1⟩:=I.base.slot b o e n hb (nx b);have hm:b∈frs X.stack:=(zbt I hs hf).mpr (.inr hb);obtain⟨s2,e2⟩:=un.slot b _ e1 (I.base.free b o e n (nx b)) hm (by simp);obtain⟨_,o3,e3,d3⟩:=fl.2.2.1.mem (show b∈(X.env::X.outer).filterMap (·.frame) by rw[← hs]; exact hm);rw[e2] at e3;cases e3;obtain⟨sl,e4⟩:=up b _ e2 d3;exact⟨sl,e4⟩
 have all:∀b o,X.s₀.heap.get? b=some o→b ∉ X.fs→∃o',B.get? b=some o':=λb o e hb=>by
  obtain⟨o1,e1⟩:=I.base.there b o e (nx b);exact bk.all b o1 e1 (nS e hb)
 refine⟨⟨λb o e n hb _=>fl'.1 b o (old b o e n hb),λb o e n hb _=>slot b o e n hb,λb o e n _=>?_,λb o e _=>?_,λb xs e=>un.tups b xs (I.base.tups b xs e),λb ob u e=>un.frzs b ob u (I.base.frzs b ob u e),λb ps e=>?_⟩,⟨bk.trk,old,all,bk.new⟩⟩
 ·obtain⟨o1,e1⟩:=I.base.there b o e (nx b);exact un.free b o1 e1 (I.base.free b o e n (nx b)) (by simp)
 ·by_cases hb:b∈X.fs
  ·obtain⟨sl,e1⟩:=slot b o e (I.ok.frf b hb) hb;exact⟨_,e1⟩
  ·obtain⟨o',e'⟩:=all b o e hb;exact⟨o',fl'.1 _ _ e'⟩
 ·obtain⟨m1,e1⟩:=I.base.tbls b ps e;obtain⟨m2,e2⟩:=un.tbls b _ e1;exact⟨m1++m2,by rw[e2,Array.append_assoc]⟩
end
section
variable {P:Program}{w:World}{K:PySem.W.Frag}{mg:Str→Option Value}{base:Heap}{N:List Str}{qual:Str}{scope:Scope}{f:Addr}{cdv:Value}{A:Around}{outer:List Env}{s0:Shared}{H0:Hp}{E:XK}
theorem zjI:zjs (CXE P w) (zat (CXE P w) P w K mg base N qual scope f cdv A outer s0 H0 E) E:=by
 intro pins σ H s e s' I hq;obtain⟨ea,c,a0,B,H',rfl,os,bare,un,hok,fl,bk,q⟩:=hq;refine ziu I.ok.frames rfl fl λh' fl' up=>?_
 obtain⟨h1,h2⟩:=zfW I rfl rfl rfl un fl.1 fl'.1 up bk;exact⟨ea,c,a0,B,H',rfl,os.trans I.os,bare,h1,zeq hok bk.trk fl.1.1 fl'.1.1,fl',h2,q⟩
def zeQ (X:Cx)(W:St→XK):Prop:=∀(pins:List (Addr×Obj)) (σ:St) (H:Hp) (s:Shared) (h':Heap) (e c:Addr) (vs:List Value),Inv X pins σ H s→Heap.MadeExcOf s.heap h' e (.ref c) vs→W σ (.ref c) none H→X.xe (.ref e) { s with heap:=h' }
theorem zis:zeQ (zat (CXE P w) P w K mg base N qual scope f cdv A outer s0 H0 E) (λ_=>E):=by
 intro pins σ H s h' e c vs I hx q;have inB:∀ {b:Addr} {o:Obj},s.heap.get? b=some o→b ∉ frs (zat (CXE P w) P w K mg base N qual scope f cdv A outer s0 H0 E).stack→(PySem.W.hideAll s.heap (frs (zat (CXE P w) P w K mg base N qual scope f cdv A outer s0 H0 E).stack)).get? b=some o:=λe hb=>PySem.W.hideAll_get _ e hb
 have hfr:s.heap.FunFrames (PySem.W.hideAll s.heap (frs (zat (CXE P w) P w K mg base N qual scope f cdv A outer s0 H0 E).stack)) (zat (CXE P w) P w K mg base N qual scope f cdv A outer s0 H0 E).stack:=
  PySem.W.funFrames_hide I.stack λenv he a hf=>VaS.mpr ⟨env,he,hf⟩
 have st:(PySem.W.hideAll s.heap (frs (zat (CXE P w) P w K mg base N qual scope f cdv A outer s0 H0 E).stack)).StaysIn s.heap:=λb o z=>PySem.W.of_hideAll _ z
 have trk:∀b u,H b=some u→∃o,(PySem.W.hideAll s.heap (frs (zat (CXE P w) P w K mg base N qual scope f cdv A outer s0 H0 E).stack)).get? b=some o:=λb u z=>by
  obtain⟨o,eo⟩:=zft (I.hok b u z);exact⟨o,inB eo λhb=>by rw[I.stkFree b hb] at z; cases z⟩
 have he:H e=none:=by
  cases z:H e with
  | none=>rfl
  | some u=>
   obtain⟨o,eo⟩:=zft (I.hok e u z);rw[hx.new] at eo; cases eo
 have bk:Bk (frs (zat (CXE P w) P w K mg base N qual scope f cdv A outer s0 H0 E).stack) H H (PySem.W.hideAll s.heap (frs (zat (CXE P w) P w K mg base N qual scope f cdv A outer s0 H0 E).stack)) s.heap e:=
  ⟨trk,λb o z _ hb=>inB z hb,λb o z hb=>⟨o,inB z hb⟩,he⟩
 refine zkr I.ok.frames rfl st hfr hx λh2 t fl' up=>?_
 have un:Un (frs (zat (CXE P w) P w K mg base N qual scope f cdv A outer s0 H0 E).stack) [] H H s.heap s.heap:=Un.refl
 have up':s.heap.UpToSlots h2:=(Heap.UpToSlots.of_keeps hx.keeps).trans up
 have nL:∀ {b:Addr} {o:Obj},s0.heap.get? b=some o→b ∉ frs outer→b ∉ frs (zat (CXE P w) P w K mg base N qual scope f cdv A outer s0 H0 E).stack:=λ{b o} z hb y=>by
  rcases (zbt I rfl rfl).mp y with y | y
  ·exact Vab (Vaa (Heap.lt_size z) I.ok.above) y
  ·exact hb y
 have old:∀b o,s0.heap.get? b=some o→H0 b=none→b ∉ frs outer→(PySem.W.hideAll s.heap (frs (zat (CXE P w) P w K mg base N qual scope f cdv A outer s0 H0 E).stack)).get? b=some o:=λb o z n hb=>inB (I.base.keep b o z n hb (by intro y; exact absurd (show b∈([]:List Addr) from y) (by simp))) (nL z hb)
 have all:∀b o,s0.heap.get? b=some o→b ∉ frs outer→∃o',(PySem.W.hideAll s.heap (frs (zat (CXE P w) P w K mg base N qual scope f cdv A outer s0 H0 E).stack)).get? b=some o':=λb o z hb=>by
  obtain⟨o1,e1⟩:=I.base.there b o z (by intro y; exact absurd (show b∈([]:List Addr) from y) (by simp));exact⟨o1,inB e1 (nL z hb)⟩
 have slot:∀b o,s0.heap.get? b=some o→H0 b=none→b∈frs outer→∃sl,h2.get? b=some { o with slots:=sl }:=λb o z n hb=>by
  obtain⟨s1,e1⟩:=I.base.slot b o z n hb (by intro y; exact absurd (show b∈([]:List Addr) from y) (by simp));obtain⟨_,o3,e3,d3⟩:=hfr.mem (show b∈(zat (CXE P w) P w K mg base N qual scope f cdv A outer s0 H0 E).stack.filterMap (·.frame) from (zbt I rfl rfl).mpr (.inr hb));rw[e1] at e3;cases e3;obtain⟨sl,e4⟩:=up' b _ e1 d3;exact⟨sl,e4⟩
 refine⟨e,c,.ref t,_,H,rfl,I.os,I.bare,⟨λb o z n hb _=>fl'.1.1 b o (old b o z n hb),λb o z n hb _=>slot b o z n hb,λb o z n _=>I.base.free b o z n (by intro y; exact absurd (show b∈([]:List Addr) from y) (by simp)),λb o z _=>?_,I.base.tups,I.base.frzs,I.base.tbls⟩,zeq I.hok trk st fl'.1.1,fl',⟨trk,old,all,he⟩,q⟩;by_cases hb:b∈frs outer
 ·obtain⟨sl,e1⟩:=slot b o z (I.ok.frf b hb) hb;exact⟨_,e1⟩
 ·obtain⟨o',e'⟩:=all b o z hb;exact⟨o',fl'.1.1 _ _ e'⟩
end
structure Xc (K:PySem.W.Frag)(mg:Str→Option Value)(x:Str)(C:Addr)(bm:List Value)(nid:String):Prop where
 bound:mg x=some (.ref C)
 ex:PySem.W.excIn K C bm nid=true
theorem zkm {K:PySem.W.Frag}{mg:Str→Option Value}{x:Str}{C:Addr}{bm:List Value}{nid:String}{h:Heap}(c:Xc K mg x C bm nid)(KX:K.In h):OwnCls x C bm nid mg h:=by
 obtain⟨b,q⟩:=c;constructor
 ·exact b
 ·revert q
  unfold PySem.W.excIn;intro q;split at q
  case h_2=>cases q
  case h_1 dd cd sl look=>
   split at q
   case h_2=>cases q
   case h_1 C1 zaz z0 z1 z2 z3 nn z5 em es=>
    rw[Vak,Vak,Vak,Vak,Vak] at q;obtain⟨⟨⟨⟨⟨q1,q2⟩,q3⟩,q4⟩,q5⟩,q6⟩:=q;have r1:=beq_iff_eq.mp q1
    have r2:=beq_iff_eq.mp q2
    have r6:=beq_iff_eq.mp q6;cases cd with
    | mk a1 a2 a3 a4 a5 a6 a7 a8 a9 a10 a11=>
     have em':a3=Value.ref C1::zaz:=em
     have r3:a11=false:=by simpa using q3
     have hsl:sl=#[z0,z1,z2,z3,some (Value.builtin nn),z5]:=by
      cases sl with
      | mk l=>exact congrArg Array.mk es
     subst r1 r2 em' r3 hsl;exact⟨zaz,a4,a1,a5,a2,a6,a7,a8,a9,a10,dd,z0,z1,z2,z3,z5,_,KX _ _ look,Heap.Ns.of_isNs (PySem.W.isNs_of_in KX q5),PySem.W.nsMap_none_of_in KX q5 r6,PySem.W.tail_of_in KX q4⟩
abbrev WC:=List D→Sto→DK→Prop
abbrev Sd:=List D→Sto→DK→(Addr→Sto→Prop)→Prop
def upC (K:PySem.W.Frag)(Z:Zx)(w:WC):List V→Hp→VK→Prop:=λxs H Qv=>∃r S ds Q,Rel K Z r S H∧Rps r H ds xs∧w ds S Q∧Ret K Z r H Q Qv
def upF (K:PySem.W.Frag)(sd:Sd):Sp:=λvs H Qv E=>∃ex:Addr→Sto→Prop,upC K (Zc ex E) (λds S Q=>sd ds S Q ex) vs H Qv
def zds (w:WC)(t:TDA):TDE:=λdl S Q=>t dl S λds S1=>w ds S1 Q
def zcP (ex:Ev→Addr→Sto→Prop)(sd:Sd)(t:TDA):TDE:=λdl S Q=>t dl S λds S1=>sd ds S1 Q (ex dl)
def za6 (X:Cx)(W:St→XK):Prop:=∀(pins:List (Addr×Obj)) (σ:St) (H:Hp) (s:Shared) (e:Value) (s':Shared),Inv X pins σ H s→CXE X.prog X.w X.stack H s (W σ) e s'→X.xe e s'
section
variable {X:Cx}{k:Nat}{f:Addr}{fd:FuncData}{ps:List Str}{sp:Sp}{W:St→XK}{x:Str}{p pos:Pos}{e:Expr}{es:List Expr}{t:TA}
theorem zjg {pins:List (Addr×Obj)}{σ:St}{H:Hp}{s:Shared}{Q:VK}{us:List Value}{vs:List V}(F:zas X.prog X.w X.K X.mg X.base (CXE X.prog X.w) k f fd ps sp)(hr:zan k X.A)(hb:zaD X.K fd ps [])(hx:za6 X W)
  (I:Inv X pins σ H s)(r:zac vs us)(h:sp vs H Q (W σ)):wpAny (model X.prog X.w) X.A (call (.ref f) us) (EP X pins σ Q) X.xe s:=by
 have hl:us.length=ps.length:=by rw[← r.length]; exact F.len _ _ _ _ h
 have hb':=hb s us I.kIn (by rw[Vau]; exact hl);rw[Vau] at hb';refine wpAny_call (codeAny_mono (F.run X.A X.stack s H ⟨us,[]⟩ us vs Q (W σ) hr I.env0 hb' r h) λz s' hq=>?_);cases z with
 | error ev=>exact hx pins σ H s ev s' I hq
 | ok fl=>
  cases fl with
  | ret u=>exact I.after hq
  | _=>exact False.elim hq
theorem zhz (F:zas X.prog X.w X.K X.mg X.base (CXE X.prog X.w) k f fd ps sp)(hr:zan k X.A)(hg:Gl X x)(hm:X.mg x=some (.ref f))(hk:PySem.W.keepIn X.K (.ref f)=true)(hb:zaD X.K fd ps [])(hx:za6 X W)
  (ha:PA X (e::es) t)(hdb:(x==("__debug__":Str))=false)(he:starEach (e::es) X.env=(false,eval e X.env)::starEach es X.env)(hpl:(backTo pos (starEach es X.env)).any (·.1)=false):
  PE X (.Call (.Name x p) (e::es) [] pos) (λσ H Q=>t σ H λvs H1=>sp vs H1 Q (W σ)):=by
 intro pins s σ H Q I h;refine wpAny_Call_Name_kw (zbW I hg hm ?_ hdb);exact PySem.W.callWith_K (h₀:=X.base) I.ok.mod.kin hk (thn (ha pos pins s σ H _ I h) λus s1 ⟨vs,H1,I1,r,q⟩=>⟨I1.kIn,zjg F hr hb hx I1 r q⟩) he hpl
end
section
variable {X:Cx}{Z:Zx}{x:Str}{p pos:Pos}{e:Expr}{es:List Expr}{t:TDA}{id T:String}{w:WC}
theorem zhU {σ:St}{H:Hp}{Qv:VK}(h:up X.K Z (zds w t) σ H Qv):upA X.K Z t σ H λvs H1=>upC X.K Z w vs H1 Qv:=by
 obtain⟨r,dl,S,Q,rs,rel,h,ret⟩:=h;exact⟨r,dl,S,_,rs,rel,h,λvs H1 r1 ds S1 e1 rel1 p1 h1=>⟨r1,S1,ds,Q,rel1,p1,h1,ret.ext e1⟩⟩
theorem ze2 (hc:zaQ X (.builtin id) (upC X.K Z w))(hg:Gl X x)(hm:X.mg x=none)(hv:bootBuiltins x=some (.builtin id))(ha:PDA X Z (e::es) t)(hn:x≠"__name__":=by decide)(hdb:(x==("__debug__":Str))=false:=by decide)
  (he:starEach (e::es) X.env=(false,eval e X.env)::starEach es X.env:=by rfl)(hpl:(backTo pos (starEach es X.env)).any (·.1)=false:=by rfl):PD X Z (.Call (.Name x p) (e::es) [] pos) (zds w t):=
 zay (zd4 hc hg hm hv ha hn hdb he hpl) λ_ _ _ h=>zhU h
theorem up_sd {sd:Sd}{r:List Addr}{S:Sto}{H:Hp}{dl:Ev}{σ:St}{ds:List D}{vs:List V}{Q:DK}{Qv:VK}(rs:Rs r H dl σ)(rel:Rel X.K Z r S H)(p:Rps r H ds vs)(h:sd ds S Q (Z.ex dl))(ret:Ret X.K Z r H Q Qv):upF X.K sd vs H Qv (Z.w σ):=
 ⟨Z.ex dl,r,S,ds,Q,⟨rel.b,λ_ _ c H' r' S' x _ rb q=>rel.xw dl σ c H' r' S' x (rs.ext x) rb q⟩,p,h,λv H' r' d S' x rel' pv q=>ret v H' r' d S' x ⟨rel'.b,rel.xw.ext x⟩ pv q⟩
theorem zjR {k:Nat}{f:Addr}{fd:FuncData}{ps:List Str}{sd:Sd}(F:zas X.prog X.w X.K X.mg X.base (CXE X.prog X.w) k f fd ps (upF X.K sd))(hr:zan k X.A)(hg:Gl X x)(hm:X.mg x=some (.ref f))(hk:PySem.W.keepIn X.K (.ref f)=true)
  {ex:Ev→Addr→Sto→Prop}{W:St→XK}(hb:zaD X.K fd ps [])(hx:za6 X W)(ha:PDA X ⟨ex,W⟩ (e::es) t)(hdb:(x==("__debug__":Str))=false:=by decide)(he:starEach (e::es) X.env=(false,eval e X.env)::starEach es X.env:=by rfl)
  (hpl:(backTo pos (starEach es X.env)).any (·.1)=false:=by rfl):PD X ⟨ex,W⟩ (.Call (.Name x p) (e::es) [] pos) (zcP ex sd t):=
 zay (zhz F hr hg hm hk hb hx ha hdb he hpl) λσ H Qv ⟨r,dl,S,Q,rs,rel,h,ret⟩=>⟨r,dl,S,_,rs,rel,h,λvs H1 r1 ds S1 e1 rel1 p1 h1=>up_sd (Z:=⟨ex,W⟩) (rs.ext e1) rel1 p1 h1 (ret.ext e1)⟩
def zdO:WC:=λds S Q=>match ds with
 | [.int i]=>Q (.int (if i<0 then -i else i)) S
 | _=>False
theorem zgd:zaQ X (.builtin "abs") (upC X.K Z zdO):=zf7 zjY λxs H Qv ⟨r,S,ds,Q,rel,ps,q,ret⟩=>by
 unfold zdO at q;split at q
 ·rename_i i;obtain⟨v,vs,rfl,p1,p2⟩:=ps.uncons;have z:=p2.unnil;subst z;cases p1;exact⟨i,rfl,ret _ _ _ _ _ Ext.refl rel (.int _) q⟩
 ·exact q.elim
def zgf:List D→Option (List Int)
 | []=>some []
 | .int i::r=>(zgf r).map (i::·)
 | _::_=>none
def zfz (le:Int→Int→Prop)(two:Int→Int→Int):WC:=λds S Q=>match ds with
 | [.int i,.int j]=>Q (.int (two i j)) S
 | [.ref n]=>match lAt S n with
  | some o=>match zgf (zaB o) with
   | some xs=>xs≠[]∧∀m,m∈xs→(∀y∈xs,le y m)→Q (.int m) S
   | none=>False
  | none=>False
 | _=>False
def zdE:WC:=λds S Q=>match ds with
 | [.tup xs]=>Q (.int xs.length) S
 | [.ref n]=>match lAt S n with
  | some o=>Q (.int (zaB o).length) S
  | none=>False
 | _=>False
theorem zg2:zaQ X (.builtin "len") (upC X.K Z zdE):=zf7 zho λxs H Qv ⟨r,S,ds,Q,rel,ps,q,ret⟩=>by
 unfold zdE at q;split at q
 ·rename_i ys;obtain⟨v,vs,rfl,p1,p2⟩:=ps.uncons;have z:=p2.unnil;subst z;obtain⟨a,zs,rfl,h1,h2⟩:=p1.untup;exact⟨a,zs,rfl,.inr (SqT.of h1),by rw[← h2.1]; exact ret _ _ _ _ _ Ext.refl rel (.int _) q⟩
 ·rename_i n;obtain⟨v,vs,rfl,p1,p2⟩:=ps.uncons;have z:=p2.unnil;subst z;split at q
  ·rename_i o eo;obtain⟨eo,eL⟩:=zbz eo;obtain⟨a,ha,ob⟩:=rel.at eo;cases p1 with
   | ref h1=>
    rw[h1] at ha; cases ha
    obtain⟨ys,sq,pr⟩:=ob.list eL;exact⟨_,ys,rfl,.inl sq,by rw[← pr.1]; exact ret _ _ _ _ _ Ext.refl rel (.int _) q⟩
  ·exact q.elim
 ·exact q.elim
def zbU (t T:String):Bool:=t==T||(t == "bool"&&T == "int")
def zeX (T:String)(te:TDE):TDE:=λdl S Q=>te dl S λd S1=>match d with
 | .ref _=>False
 | .xw _ _=>False
 | .exc _=>False
 | .non=>Q (.bl (zbU "NoneType" T)) S1
 | .bl _=>Q (.bl (zbU "bool" T)) S1
 | .int _=>Q (.bl (zbU "int" T)) S1
 | .str _=>Q (.bl (zbU "str" T)) S1
 | .tup _=>Q (.bl (zbU "tuple" T)) S1
def Kit (K:PySem.W.Frag)(T:String):Prop:=∀t∈["NoneType","bool","int","str","tuple"],PySem.W.kitOne K (.type t) (.type T)=some (zbU t T)
def rInst (K:PySem.W.Frag):List V→Hp→VK→Prop:=λxs H Qv=>∃x T t b,xs=[x,.ty T]∧zaT K H x t∧PySem.W.kitOne K t (.type T)=some b∧Qv (.bl b) H
theorem zjr:zaQ X (.builtin "isinstance") (rInst X.K):=by
 intro pins s σ H xs us Q I r h;obtain⟨x,T,t,b,rfl,ty,e,q⟩:=h;obtain⟨u,w',rfl,r1,r2⟩:=zgr r;cases r2;exact zjq I r1 ty e λtk=>⟨.bl b,H,I.tok tk,rfl,q⟩
theorem zeD {T:String}{te:TDE}{y:Str}{p2:Pos}(KT:Kit X.K T)(hg:Gl X "isinstance")(hm:X.mg "isinstance"=none)(hg2:Gl X y)(hm2:X.mg y=none)(hv2:bootBuiltins y=some (.type T))(ha:PD X Z e te)
  (hv:bootBuiltins "isinstance"=some (.builtin "isinstance"):=by exact PyProof.Rows.Boot.«isinstance»)
  (hn2:y≠"__name__":=by decide)(hd2:(y==("__debug__":Str))=false:=by decide)(he2:starEach [e,.Name y p2] X.env=(false,eval e X.env)::starEach [.Name y p2] X.env:=by rfl)
  (he3:starEach [.Name y p2] X.env=(false,eval (.Name y p2) X.env)::starEach [] X.env:=by rfl)(hpl:(backTo pos (starEach [.Name y p2] X.env)).any (·.1)=false:=by rfl):
  PD X Z (.Call (.Name "isinstance" p) [e,.Name y p2] [] pos) (zeX T te):=
 zay (zd4 zjr hg hm hv (zbP ha (zbP (zgb (v:=.ty T) hg2 hm2 hv2 rfl hn2 hd2) zc7 he3) he2) (by decide) (by decide) he2 hpl) λσ H Qv ⟨r,dl,S,Q,rs,rel,h,ret⟩=>
  ⟨r,dl,S,_,rs,rel,h,λv H1 r1 d S1 e1 rel1 p1 h1=>by
   cases p1 with
   | non=>exact⟨_,T,_,_,rfl,.non,KT _ (by simp),ret _ _ _ _ _ e1 rel1 (.bl _) h1⟩
   | bl b=>exact⟨_,T,_,_,rfl,.bl b,KT _ (by simp),ret _ _ _ _ _ e1 rel1 (.bl _) h1⟩
   | int b=>exact⟨_,T,_,_,rfl,.int b,KT _ (by simp),ret _ _ _ _ _ e1 rel1 (.bl _) h1⟩
   | str b=>exact⟨_,T,_,_,rfl,.str b,KT _ (by simp),ret _ _ _ _ _ e1 rel1 (.bl _) h1⟩
   | tup e2 _ _=>exact⟨_,T,_,_,rfl,.tup e2,KT _ (by simp),ret _ _ _ _ _ e1 rel1 (.bl _) h1⟩
   | ref _=>exact(show False from h1).elim
   | xw _ h2'=>exact(show False from h1).elim
   | exc _=>exact(show False from h1).elim⟩
end
section
variable {X:Cx}{Z:Zx}{st:Stmt}{zaz:List Stmt}{t u:TDS}{e:Expr}{te:TDE}{pos:Pos}
def zet:TDS:=λE dl S=>E.nx dl S
def dSeq (t u:TDS):TDS:=λE dl S=>t { nx:=λdl' S'=>u E dl' S',rt:=E.rt,bk:=E.bk,ct:=E.ct } dl S
theorem za5:zaZ X Z [] zet:=zf1 zjF λF σ H ⟨r,dl,S,E,rs,rel,h,ret⟩=>ret.nx σ H r dl S Ext.refl rs rel h
theorem zaw (h1:PDS X Z st t)(h2:zaZ X Z zaz u):zaZ X Z (st::zaz) (dSeq t u):=
 zf1 (zh5 h1 h2) λF σ H ⟨r,dl,S,E,rs,rel,h,ret⟩=>⟨r,dl,S,_,rs,rel,h,λσ' H' r' dl' S' x rs' rel' q=>⟨r',dl',S',E,rs',rel',q,ret.ext x⟩,ret.bk,ret.ct,ret.rt⟩
theorem zap (h1:PDS X Z st t):zaZ X Z [st] t:=zfv h1
def ze3 (te:TDE):TDS:=λE dl S=>te dl S λ_ S1=>E.nx dl S1
theorem zff (he:PD X Z e te)(hs:swapsWith e none pos.line X.env=pure false:=by rfl):PDS X Z (.Expr e pos) (ze3 te):=
 zb3 (zjt he hs) λF σ H ⟨r,dl,S,E,rs,rel,h,ret⟩=>⟨r,dl,S,_,rs,rel,h,λv H1 r1 d S1 x rel1 p q=>ret.nx σ H1 r1 dl S1 x (rs.ext x) rel1 q⟩
def dRet (te:TDE):TDS:=λE dl S=>te dl S E.rt
theorem zax (he:PD X Z e te):PDS X Z (.Return (some e) pos) (dRet te):=
 zb3 (zkh he) λF σ H ⟨r,dl,S,E,rs,rel,h,ret⟩=>⟨r,dl,S,_,rs,rel,h,ret.rt⟩
def zfy:TDS:=λE _ S=>E.rt .non S
def dIf (c:TDT)(t u:TDS):TDS:=λE dl S=>c dl S λk S1=>if k=true then t E dl S1 else u E dl S1
theorem zaR {c:Expr}{a b:List Stmt}{tc:TDT}(hc:PDT X Z c tc)(ha:zaZ X Z a t)(hb:zaZ X Z b u):PDS X Z (.If c a b pos) (dIf tc t u):=
 zb3 (ps_if hc ha hb) λF σ H ⟨r,dl,S,E,rs,rel,h,ret⟩=>⟨r,dl,S,_,rs,rel,h,λk H1 r1 S1 x rel1 q=>by
  cases k with
  | true=>exact zbY ⟨r1,dl,S1,E,rs.ext x,rel1,(by simpa using q),ret.ext x⟩
  | false=>exact zbM ⟨r1,dl,S1,E,rs.ext x,rel1,(by simpa using q),ret.ext x⟩⟩
def zdH (i:Nat)(te:TDE):TDS:=λE dl S=>te dl S λd S1=>E.nx (dl.set i (some d)) S1
theorem zaL {i:Nat}{x:Str}{pos':Pos}(hN:X.N.Nodup)(hi:X.N[i]?=some x)(hx:Loc X.env.scope x)(he:PD X Z e te)(hs:swapsWith e (some (.Name x pos')) pos.line X.env=pure false:=by rfl)
  (hf:X.fn x=true∨X.env.scope.names.lookup x=some .local:=by first | exact .inl rfl | exact .inr rfl | assumption):PDS X Z (.Assign [.Name x pos'] e pos) (zdH i te):=
 zb3 (zj6 hN hi hx he hs hf) λF σ H ⟨r,dl,S,E,rs,rel,h,ret⟩=>⟨r,dl,S,_,rs,rel,h,λv H1 r1 d S1 x rel1 p q=>ret.nx _ H1 r1 _ S1 x ((rs.ext x).set i p) rel1 q⟩
def zjD (c:TDT)(tb:TDS):TDS:=λE dl S=>∃W:Nat→Ev→Sto→Prop,(∃m,W m dl S)∧∀m dl S,W m dl S→
 c dl S λk S1=>if k=true then tb { nx:=λdl' S'=>∃m',m'<m∧W m' dl' S',rt:=E.rt,bk:=E.nx,ct:=λdl' S'=>∃m',m'<m∧W m' dl' S' } dl S1 else E.nx dl S1
theorem zhB {c:Expr}{body:List Stmt}{tc:TDT}{tb:TDS}(hp:PassesOwn (model X.prog X.w) X.A X.env X.xe)(hc:PDT X Z c tc)(hb:zaZ X Z body tb):PDS X Z (.While c body [] pos) (zjD tc tb):=
 zb3 (zjo hp hc hb) λF σ H ⟨r,dl,S,E,rs,rel,⟨W,⟨m0,w0⟩,turn⟩,ret⟩=>by
  refine⟨λm σ' H'=>∃r' dl' S',Ext r r' H H'∧Rs r' H' dl' σ'∧Rel X.K Z r' S' H'∧W m dl' S',⟨m0,r,dl,S,Ext.refl,rs,rel,w0⟩,?_⟩;rintro m σ1 H1 ⟨r1,dl1,S1,x1,rs1,rel1,w1⟩;refine⟨r1,dl1,S1,_,rs1,rel1,turn m dl1 S1 w1,λk H2 r2 S2 x2 rel2 q2=>?_⟩;cases k with
  | true=>
   refine zbY ⟨λσ' H'=>∃m',m'<m∧∃r' dl' S',Ext r r' H H'∧Rs r' H' dl' σ'∧Rel X.K Z r' S' H'∧W m' dl' S',λ_ _ z=>z,r2,dl1,S2,_,rs1.ext x2,rel2,(by simpa using q2),?_⟩;have go:∀σ' H' r' dl' S',Ext r2 r' H2 H'→Rs r' H' dl' σ'→Rel X.K Z r' S' H'→(∃m',m'<m∧W m' dl' S')→∃m',m'<m∧∃r' dl' S',Ext r r' H H'∧Rs r' H' dl' σ'∧Rel X.K Z r' S' H'∧W m' dl' S':=
    λσ' H' r' dl' S' x rs' rel' ⟨m',hm,w'⟩=>⟨m',hm,r',dl',S',x1.trans (x2.trans x),rs',rel',w'⟩
   exact⟨go,λσ' H' r' dl' S' x rs' rel' q=>ret.nx σ' H' r' dl' S' (x1.trans (x2.trans x)) rs' rel' q,go,ret.rt.ext (x1.trans x2)⟩
  | false=>exact zbM (ret.nx σ1 H2 r2 dl1 S2 (x1.trans x2) (rs1.ext x2) rel2 (by simpa using q2))
end
def za3 (N:List Str)(ds:List D):Ev:=ds.map some++List.replicate (N.length-ds.length) none
theorem zeW {r:List Addr}{H:Hp}{N:List Str}{ds:List D}{vs:List V}(h:Rps r H ds vs):Rs r H (za3 N ds) (L2.zaP N vs):=by
  refine⟨by simp[za3,L2.zaP,h.1],λi d e=>?_⟩;unfold za3 at e;by_cases hi:i<ds.length
  · rw[Vap (by simpa using hi),Var] at e
    cases q:ds[i]? with
    | none=>
   rw[q] at e;cases e
    | some z=>
      rw[q] at e;cases e;obtain⟨v,hv,pv⟩:=h.get q;refine⟨v,?_,pv⟩;unfold L2.zaP;rw[Vap (by simpa [h.1] using hi),Var,hv];rfl
  · rw[Vax (by simpa using hi),Va2] at e
    split at e <;> cases e
section
variable {P:Program}{w:World}{K:PySem.W.Frag}{mg:Str→Option Value}{base:Heap}
abbrev Z0:Zx:=Zc (λ_ _=>False) (λ_ _ _=>False)
theorem zhk {X:Cx}:za6 X Z0.w:=λ_ _ _ _ _ _ _ h=>by
 obtain⟨_,_,_,_,_,_,_,_,_,_,_,_,q⟩:=h;exact q.elim
theorem za0 {x qual:Str}{st:Stmt}{f:Addr}{fd:FuncData}{N ps:List Str}{k:Nat}{sd:Sd}(F:Fun K x qual st f fd)(Sc:zau N ps (zak st))(len:∀ds S Q ex,sd ds S Q ex→ds.length=ps.length)
  (hbody:∀(cdv:Value) (A:Around) (outer:List Env) (s:Shared) (H:Hp) (E:XK),zan k (A.deeper (envOfC qual (zak st) s.heap.objs.size f cdv))→
   ∃t,zaZ (zat (CXE P w) P w K mg base N qual (zak st) f cdv A outer s H E).nox Z0 (zaW st) t∧∀ds S Q ex,sd ds S Q ex→t { nx:=λ_ S'=>Q .non S',rt:=Q } (za3 N ds) S):zas P w K mg base (CXE P w) (k+1) f fd ps (upF K sd):=by
 obtain⟨oc,od,kV,doc,pm,an,cdv,ct,osl,rfl,lk,hcd⟩:=F.ex;refine zc8 lk hcd Sc (λvs H Q E h=>?_) λA outer s H vs Q E hr h=>?_
 ·obtain⟨ex,r,S,ds,Q',rel,p,q,ret⟩:=h;rw[← p.1];exact len ds S Q' ex q
 ·obtain⟨ex,r,S,ds,Q',rel,p,q,ret⟩:=h;obtain⟨t,ht,hq⟩:=hbody cdv A outer s H E hr;have back:∀ {H':Hp} {r':List Addr} {S':Sto},Ext r r' H H'→Rel K Z0 r' S' H'→Rel K (Zc ex E) r' S' H':=λx rel'=>⟨rel'.b,rel.xw.ext x⟩
  refine⟨upS K Z0 t,ht.nox,r,za3 N ds,S,_,zeW p,⟨rel.b,λ_ _ _ _ _ _ _ _ _ z=>z.elim⟩,hq ds S Q' ex q,?_,?_,?_,?_⟩
  ·intro σ' H' r' dl' S' x _ rel' z;exact ret .non H' r' .non S' x (back x rel') .non z
  ·intro σ' H' r' dl' S' x _ rel' z;exact z
  ·intro σ' H' r' dl' S' x _ rel' z;exact z
  ·intro v H' r' d S' x rel' p' z;exact ret v H' r' d S' x (back x rel') p' z
theorem zen {x qual:Str}{st:Stmt}{f:Addr}{fd:FuncData}{N ps:List Str}{k:Nat}{sd:Sd}(F:Fun K x qual st f fd)(Sc:zau N ps (zak st))(len:∀ds S Q ex,sd ds S Q ex→ds.length=ps.length)
  (hbody:∀(cdv:Value) (A:Around) (outer:List Env) (s:Shared) (H:Hp) (E:XK) (ex:Addr→Sto→Prop),zan k (A.deeper (envOfC qual (zak st) s.heap.objs.size f cdv))→
   za6 (zat (CXE P w) P w K mg base N qual (zak st) f cdv A outer s H E) (λ_=>E)→zeQ (zat (CXE P w) P w K mg base N qual (zak st) f cdv A outer s H E) (λ_=>E)→
   ∃t,zaZ (zat (CXE P w) P w K mg base N qual (zak st) f cdv A outer s H E) (Zc ex E) (zaW st) t∧∀ds S Q,sd ds S Q ex→t { nx:=λ_ S'=>Q .non S',rt:=Q } (za3 N ds) S):zas P w K mg base (CXE P w) (k+1) f fd ps (upF K sd):=by
 obtain⟨oc,od,kV,doc,pm,an,cdv,ct,osl,rfl,lk,hcd⟩:=F.ex;refine zc8 lk hcd Sc (λvs H Q E h=>?_) λA outer s H vs Q E hr h=>?_
 ·obtain⟨ex,r,S,ds,Q',rel,p,q,ret⟩:=h;rw[← p.1];exact len ds S Q' ex q
 ·obtain⟨ex,r,S,ds,Q',rel,p,q,ret⟩:=h;obtain⟨t,ht,hq⟩:=hbody cdv A outer s H E ex hr zjI zis;refine⟨upS K (Zc ex E) t,ht,r,za3 N ds,S,_,zeW p,rel,hq ds S Q' q,?_,?_,?_,ret⟩
  ·intro σ' H' r' dl' S' x _ rel' z;exact ret .non H' r' .non S' x rel' .non z
  ·intro σ' H' r' dl' S' x _ rel' z;exact z
  ·intro σ' H' r' dl' S' x _ rel' z;exact z
end
open PySem
def Sz (n:Nat)(i:Int):Prop:=i.natAbs<2^n
theorem Sz.mono {m n:Nat}{i:Int}(h:Sz m i)(hn:m≤n):Sz n i:=Vaa h (Nat.pow_le_pow_right (by decide) hn)
theorem Sz.bits {n:Nat}{i:Int}(h:Sz n i):Builtin.Int.intBits i≤n:=by
 unfold Builtin.Int.intBits;split
 ·exact VaA _
 ·rename_i hz;have hp:i.natAbs≠0:=by
   intro z;have z2:i=0:=by omega
   simp[z2] at hz
  have:=(VaJ hp).mpr h;omega
theorem zeH {m n:Nat}{i j:Int}(hi:Sz m i)(hj:Sz n j)(hm:m≤1048576:=by decide)(hn:n≤1048576:=by decide):IntMulOk i j:=by
 have e20:(2:Nat)^20=1048576:=by decide
 exact IntMulOk.of_bits (Vam hi.bits (by omega)) (Vam hj.bits (by omega))
theorem Sz.of {n:Nat}{i:Int}(m:Nat)(h:i.natAbs≤m)(hm:m<2^n:=by decide):Sz n i:=Va3 h hm
theorem Sz.add {m n:Nat}{i j:Int}(hi:Sz m i)(hj:Sz n j):Sz (max m n+1) (i+j):=by
 have h1:Sz (max m n) i:=hi.mono (Nat.le_max_left _ _)
 have h2:Sz (max m n) j:=hj.mono (Nat.le_max_right _ _);unfold Sz at *
 have e:(2:Nat)^(max m n+1)=2^max m n+2^max m n:=by rw[Nat.pow_succ]; omega
 rw[e];have:=Int.natAbs_add_le i j;omega
theorem Sz.neg {m:Nat}{i:Int}(hi:Sz m i):Sz m (-i):=by
 unfold Sz at *
 rw[Int.natAbs_neg]; exact hi
theorem Sz.sub {m n:Nat}{i j:Int}(hi:Sz m i)(hj:Sz n j):Sz (max m n+1) (i-j):=by
 rw[Int.sub_eq_add_neg]; exact hi.add hj.neg
theorem Sz.log {n:Nat}{i:Int}(h:Sz n i)(hi:i≠0)(hn:n≤9000:=by decide):i.natAbs.log2<9000:=by
 have:=(VaJ (by omega:i.natAbs≠0)).mpr h;omega
theorem Sz.fd {n:Nat}{i:Int}(h:Sz n i)(hi:0<i)(hn:n≤9000:=by decide):0<i∧i.natAbs.log2<9000:=⟨hi,h.log (by omega) hn⟩
theorem zgY:IntMulOk 2 (10^(40:Int).toNat):=zeH (m:=2) (n:=140) (by unfold Sz; decide) (by unfold Sz; decide)
theorem zgh {a b:Int}(hb:0<b):0≤a%b∧a%b<b:=⟨VaK _ (by omega),VaL _ hb⟩
theorem p40:((10:Int)^(40:Int).toNat)=10^40:=rfl
theorem p41:((10:Int)^(41:Int).toNat)=10^41:=rfl
theorem p20:((10:Int)^(20:Int).toNat)=10^20:=rfl
example (x:Int):-(10^40)≤x%(2*10^40+1)-10^40:=by omega
example (x:Int):x%(2*10^40+1)-10^40≤10^40:=by omega
example (x:Int) (h:-(10^40)≤x) (h2:x≤2*10^41):Sz 140 x:=Sz.of (2*10^41) (by omega)
theorem zjZ (a b:Int):Int.gcd b (a%b)=Int.gcd a b:=by
 rw[Int.emod_def,show a-b*(a/b)=a-(a/b)*b by rw[Int.mul_comm],Int.gcd_sub_mul_right_right,Int.gcd_comm]
def zaF (i:Int):Int:=if i<0 then -i else i
theorem zfN (i:Int):0≤zaF i:=by unfold zaF; split <;> omega
theorem zhi (a b:Int):Int.gcd (zaF a) (zaF b)=Int.gcd a b:=by
 have h:∀i:Int,(zaF i).natAbs=i.natAbs:=λi=>by unfold zaF; split <;> omega
 unfold Int.gcd;rw[h,h]
theorem zgN {T B d:Int}(hB:B≠0)(hd:d=(if B<0 then -((Int.gcd T B:Nat):Int) else ((Int.gcd T B:Nat):Int))):
  d≠0∧T.fdiv d*d=T∧B.fdiv d*d=B∧1≤B.fdiv d∧Int.gcd (T.fdiv d) (B.fdiv d)=1∧T.fdiv d*B=T*B.fdiv d:=by
 have g0:0<Int.gcd T B:=Nat.pos_of_ne_zero λz=>hB (Int.gcd_eq_zero_iff.mp z).2
 have dT:((Int.gcd T B:Nat):Int) ∣ T:=Int.gcd_dvd_left T B
 have dB:((Int.gcd T B:Nat):Int) ∣ B:=Int.gcd_dvd_right T B
 have hne:d≠0:=by
  rw[hd]; split <;> omega
 have eT:d ∣ T:=by rw[hd]; split <;> first | exact Int.neg_dvd.mpr dT | exact dT
 have eB:d ∣ B:=by rw[hd]; split <;> first | exact Int.neg_dvd.mpr dB | exact dB
 have fT:T.fdiv d=T/d:=Va5 eT
 have fB:B.fdiv d=B/d:=Va5 eB
 have mT:T.fdiv d*d=T:=by rw[fT]; exact Va6 eT
 have mB:B.fdiv d*d=B:=by rw[fB]; exact Va6 eB
 have gg:Int.gcd (T.fdiv d) (B.fdiv d)=1:=by
  have z:=Int.gcd_ediv_gcd_ediv_gcd g0;rw[fT,fB,hd];split
  ·rw[Int.ediv_neg,Int.ediv_neg,Int.neg_gcd,Int.gcd_neg]; exact z
  ·exact z
 have pos:1≤B.fdiv d:=by
  by_cases hb:B<0
  ·have dn:d<0:=by rw[hd,if_pos hb]; omega
   by_cases q:B.fdiv d≤0
   ·have:=Int.mul_nonneg_of_nonpos_of_nonpos q (Int.le_of_lt dn);omega
   ·omega
  ·have dp:0<d:=by rw[hd,if_neg hb]; omega
   by_cases q:B.fdiv d≤0
   ·have:=Int.mul_nonneg (show 0≤-(B.fdiv d) by omega) (Int.le_of_lt dp);rw[Int.neg_mul] at this;omega
   ·omega
 refine⟨hne,mT,mB,pos,gg,?_⟩
 calc T.fdiv d*B=T.fdiv d*(B.fdiv d*d):=by rw[mB]
  _=T.fdiv d*d*B.fdiv d:=by grind
  _=T*B.fdiv d:=by rw[mT]
theorem zd8 {T d:Int}(hne:d≠0)(mT:T.fdiv d*d=T):(T.fdiv d).natAbs≤T.natAbs:=by
 have h:(T.fdiv d).natAbs*d.natAbs=T.natAbs:=by rw[← Int.natAbs_mul,mT]
 have hd:1≤d.natAbs:=by omega
 calc (T.fdiv d).natAbs=(T.fdiv d).natAbs*1:=by omega
  _≤(T.fdiv d).natAbs*d.natAbs:=Nat.mul_le_mul_left _ hd
  _=T.natAbs:=h
section
variable {X:Cx}{Z:Zx}
def wIf (C:Int→Int→Bool)(g:Int→Int→D):W2:=λx y S Q=>match x,y with
 | .int i,.int j=>if C i j=true then Q (g i j) S else False
 | _,_=>False
theorem opIf {f:Value→Value→Sem Value}{C:Int→Int→Prop}{C':Int→Int→Bool}{g:Int→Int→D}(h:OpR X f (upO X.K Z (wI C g)))(hc:∀i j,C' i j=true→C i j):OpR X f (upO X.K Z (wIf C' g)):=
 zey h λx y H Qv ⟨r,S,dx,dy,Q,rel,px,py,q,ret⟩=>⟨r,S,dx,dy,Q,rel,px,py,by
  unfold wIf at q;split at q
  ·obtain⟨h1,h2⟩:=zdU q;exact⟨hc _ _ h1,h2⟩
  ·exact q.elim,ret⟩
def zbZ (_ j:Int):Bool:=decide (0<j)&&decide (j<1073741824)
abbrev zid:W2:=wIf zbZ λi j=>.int (i/j)
abbrev wModL:W2:=wIf zbZ λi j=>.int (i%j)
def zdz (i j:Int):Bool:=decide (0≤j)&&decide (j≤1000)&&decide (-1000<i)&&decide (i<1000)
abbrev wPowL:W2:=wIf zdz λi j=>.int (i^j.toNat)
theorem zfP {i j:Int}(h:zbZ i j=true):0<j∧j<1073741824:=by
 unfold zbZ at h;simpa using h
theorem zit:OpR X (binaryOp .FloorDiv) (upO X.K Z zid):=opIf zdI λi j h=>by
 obtain⟨h1,h2⟩:=zfP h;refine⟨h1,?_⟩;have:j.natAbs.log2<30:=(VaJ (by omega)).mpr (by omega);omega
theorem zbe:OpR X (binaryOp .Mod) (upO X.K Z wModL):=opIf zcF λi j h=>(zfP h).1
theorem zdX:OpR X (binaryOp .Pow) (upO X.K Z wPowL):=opIf zjT λi j h=>by
 unfold zdz at h;simp at h;refine⟨h.1.1.1,by have:=h.1.1.2; omega,?_⟩;have h3:=h.1.2
 have h4:=h.2
 have big:(18446744073709551616:Nat)=2^64:=by decide
 omega
structure Df (K:PySem.W.Frag)(mg:Str→Option Value)(x:Str)(st:Stmt)(ps:List Str) where
 f:Addr
 fd:FuncData
 F:Fun K x x st f fd
 m:mg x=some (.ref f)
 b:zaD K fd ps []
structure Fk (P:Program)(w:World)(K:PySem.W.Frag)(mg:Str→Option Value)(base:Heap)(k:Nat)(x:Str)(ps:List Str)(sd:Sd) where
 f:Addr
 fd:FuncData
 ok:zas P w K mg base (CXE P w) k f fd ps (upF K sd)
 m:mg x=some (.ref f)
 kp:PySem.W.keepIn K (.ref f)=true
 b:zaD K fd ps []
def Df.mk' {P:Program}{w:World}{K:PySem.W.Frag}{mg:Str→Option Value}{base:Heap}{k:Nat}{x:Str}{st:Stmt}{ps:List Str}{sd:Sd}(d:Df K mg x st ps)(h:zas P w K mg base (CXE P w) k d.f d.fd ps (upF K sd)):Fk P w K mg base k x ps sd:=
 ⟨d.f,d.fd,h,d.m,d.F.kp,d.b⟩
theorem za1 {x:Str}{p pos:Pos}{e:Expr}{es:List Expr}{t:TDA}{k:Nat}{ps:List Str}{sd:Sd}{ex:Ev→Addr→Sto→Prop}{W:St→XK}(G:Fk X.prog X.w X.K X.mg X.base k x ps sd)(hr:zan k X.A)(hx:za6 X W)(hg:Gl X x)(ha:PDA X ⟨ex,W⟩ (e::es) t)
  (hdb:(x==("__debug__":Str))=false:=by decide)(he:starEach (e::es) X.env=(false,eval e X.env)::starEach es X.env:=by rfl)(hpl:(backTo pos (starEach es X.env)).any (·.1)=false:=by rfl):
  PD X ⟨ex,W⟩ (.Call (.Name x p) (e::es) [] pos) (zcP ex sd t):=zjR G.ok hr hg G.m G.kp G.b hx ha hdb he hpl
end
def zb2:Sd:=λds S Q _=>∃ns:List Int,ds=[.ref 0]∧S=[.frz (ns.map D.int)]∧ns.length≤63∧∀S',Q (.bl true) S'
theorem ziq:∀ds S Q ex,zb2 ds S Q ex→ds.length=1:=λds S Q ex h=>by
 obtain⟨ns,rfl,_⟩:=h;rfl
theorem zkl {K:PySem.W.Frag}{H:Hp}{a:Addr}{xs:List V}(hO:zck H)(h:SqL K H a xs):SqF K H a xs:=by
 rcases h with (h | ⟨o,h⟩) | h
 ·rcases hO a with z | ⟨o,ys,z⟩
  ·rw[h] at z; cases z
  ·rw[h] at z; cases z
 ·exact .inl ⟨o,h⟩
 ·exact .inr h
theorem zhL {r:List Addr}{H:Hp}(ns:List Int):Rps r H (ns.map D.int) (ns.map V.int):=by
 refine⟨by simp,λi d v h1 h2=>?_⟩;rw[Var] at h1 h2;cases q:ns[i]? with
 | none=>rw[q] at h1; cases h1
 | some z=>
  rw[q] at h1 h2;cases h1;cases h2;exact .int z
theorem zhX {K:PySem.W.Frag}{H:Hp}{a:Addr}{ns:List Int}(hl:ns.length≤63)(hO:zck H)(hS:SqL K H a (ns.map V.int)):upF K zb2 [.ref a] H (λv _=>v=.bl true) λ_ _ _=>False:=by
 refine⟨λ_ _=>False,[a],[.frz (ns.map D.int)],[.ref 0],λd _=>d=.bl true,⟨⟨rfl,λn b o h1 h2=>?_,λn m b xs ys h1 h2 h3 h4 o1 o2=>?_⟩,λ_ _ _ _ _ _ _ _ _ z=>z.elim⟩,Rps.cons (.ref rfl) Rps.nil,⟨ns,rfl,rfl,hl,λ_=>rfl⟩,λv H' r' d S' e rel p q=>?_⟩
 ·cases n with
  | zero=>
   simp at h1 h2;subst h1; subst h2
   exact⟨_,zkl hO hS,zhL ns⟩
  | succ n=>simp at h1
 ·cases n with
  | zero=>
   simp at h3;subst h3;cases o1
  | succ n=>simp at h1
 ·subst q;cases p;rfl
theorem zhS {l:PySem.W.OpenLaw}{q:Program}{loose:List Str}{XP:(Str→Option Value)→Heap→Prop}{YP:World→Heap→Prop}{d:DefRec}{K:Params→PySem.W.Frag}{x:Str}(k:Nat)(hn:l.most=some 63)(hdf:d.params.defaults=[])(hr:zan k callerA)
  (hY:∀(w:World) (h:Heap),YP w h→(K w.params).In h)
  (F:∀(w:World) (mg:Str→Option Value) (fa:Addr) (h:Heap),(K w.params).In h→h.Ns mainGlobals mg→mg d.name=some (.ref fa)→
   ∃fd:FuncData,(∀(s:Shared) (u:Value),BindsTo s fd ⟨[u],[]⟩ [(x,u)])∧∀base:Heap,(K w.params).In base→base.Ns mainGlobals mg→zas l.prog w (K w.params) mg base (CXE l.prog w) k fa fd [x] (upF (K w.params) zb2)):
  PySem.W.WalkO q loose XP YP l.row.toRowW d [] (λf vs=>PySem.call f vs):=
 L2.zgR (n:=63) (k:=k) (x:=x) (CX:=λw=>CXE l.prog w) (sp:=λw=>upF (K w.params) zb2) hn (by decide) hdf hr hY F (λ_ _ a ns hl hO hS=>zhX hl hO hS) λ_ _ _ _ _ ⟨_,_,_,_,_,_,_,_,_,_,_,_,z⟩=>z
theorem zeB (K:PySem.W.Frag)(T:String)(h:T∈["int","bool","tuple","str"]):Kit K T:=by
 intro t ht;simp only[Vah,List.not_mem_nil,or_false] at h ht;rcases h with rfl | rfl | rfl | rfl <;> rcases ht with rfl | rfl | rfl | rfl | rfl <;> kernel_rfl
theorem ifT {c:Bool}{A B:Prop}(h:c=true)(a:A):if c=true then A else B:=by rw[if_pos h]; exact a
theorem ifF {c:Bool}{A B:Prop}(h:c=false)(b:B):if c=true then A else B:=by rw[h]; exact zbM b
theorem ifD {c:Prop} [Decidable c] {A B:Prop}(h1:c→A)(h2:¬ c→B):if decide c=true then A else B:=by
 by_cases h:c
 ·rw[decide_eq_true h]; exact zbY (h1 h)
 ·rw[decide_eq_false h]; exact zbM (h2 h)
open PySem L2
open PySem L2
theorem ifN {c:Prop} [Decidable c] {A B:Prop}(h1:¬ c→A)(h2:c→B):if (!decide c)=true then A else B:=by
 by_cases h:c
 ·rw[decide_eq_true h]; exact L2.zbM (h2 h)
 ·rw[decide_eq_false h]; exact L2.zbY (h1 h)
section
variable {X:Cx}{Z:Zx}
def zhY (ex:Ev→Addr→Sto→Prop)(c:Addr)(t:TDA):TDS:=λ_ dl S=>t dl S λds S1=>if ds.length≤1000 then ex dl c S1 else False
theorem zez {x:Str}{C:Addr}{bm:List Value}{nid B inid:String}{np cpos pos:Pos}{e:Expr}{es:List Expr}{t:TDA}(c:Xc X.K X.mg x C bm nid)(FB:ExcBaseFacts B nid inid bm){ex:Ev→Addr→Sto→Prop}{W:St→XK}(hx:zeQ X W)(hh:X.A.handled=none)(hg:Gl X x)
  (ha:PDA X ⟨ex,W⟩ (e::es) t)(he:starEach (e::es) X.env=(false,eval e X.env)::starEach es X.env:=by rfl)(hpl:(backTo cpos (starEach es X.env)).any (·.1)=false:=by rfl)(hd:(x==("__debug__":Str))=false:=by decide):
  PDS X ⟨ex,W⟩ (.Raise (some (.Call (.Name x np) (e::es) [] cpos)) none pos) (zhY ex C t):=by
 intro pins s σ H F I h;obtain⟨r,dl,S,E,rs,rel,h,ret⟩:=h;obtain⟨ml,Nn,cn,cq,cb,cdc,csn,csu,cab,cco,cdd,u0,u1,u2,u3,u5,mN,hC,hN,hni,T⟩:=(zkm c I.ok.mod.kin).obj;refine wpAny_Raise_call_subT (C:=C) (nm:=cn) (q:=cq) (N:=Nn) (bs:=cb) (bm:=ml) (hdct:=cdc) (sn:=csn) (sub:=csu) (ab:=cab) (col:=cco) (dd:=cdd) (k0:=u0) (k1:=u1) (k2:=u2) (k3:=u3) (k5:=u5)
  FB (mN:=mN) (T.hasType FB.hasBase) hh (by rw[he]; show (false||(backTo cpos (starEach es X.env)).any (·.1))=false; rw[hpl]; rfl) hni (zbW I hg c.bound ⟨rfl,?_⟩ hd)
 have ha':=ha cpos pins s σ H (λvs H1=>vs.length≤sizeLine∧W σ (.ref C) none H1) I ⟨r,dl,S,_,rs,rel,h,λvs H1 r1 ds S1 e1 rel1 p1 h1=>by
  obtain⟨hl,h1⟩:=zdU h1;exact⟨by rw[← p1.1]; exact zeV hl,rel1.xw dl σ C H1 r1 S1 Ext.refl (rs.ext e1) rel1.b h1⟩⟩
 rw[he] at ha' ⊢;refine Calls.evalArgs_plain (wpAny_mono ha' (λus s2 h2=>?_) λ_ _ y=>y);obtain⟨vs,H1,I1,rv,hz,hw⟩:=h2;have keep:∀b o,X.base.get? b=some o→s2.heap.get? b=some o:=λb o z=>(I1.bs b o z).1
 refine⟨rfl,by rw[← rv.length]; exact hz,keep _ _ hC,hN.keeps keep,T.keeps keep,λh' ea hm=>?_⟩;exact hx pins σ H1 s2 h' ea C us I1 hm hw
abbrev Cx.mrk (X:Cx)(A:Around)(E:Value→Shared→Prop):Cx:={ X with A:=A,calm:=false,xe:=E }
theorem zej (ok:X.Ok){A:Around}{E:Value→Shared→Prop}(hf:A.frames=X.A.frames):(Cx.mrk X A E).Ok:=
 ⟨ok.mod,ok.kind,ok.glob,ok.blt,ok.above,ok.inj,ok.has,ok.cab,λz=>Bool.noConfusion z,hf.trans ok.frames,ok.stk,ok.exf,ok.bs,ok.bsz,ok.noex,ok.exfs,ok.funs,ok.frf⟩
theorem zea {pins:List (Addr×Obj)}{σ:St}{H:Hp}{s:Shared}{A:Around}{E:Value→Shared→Prop}(ok:X.Ok)(I:Inv (Cx.mrk X A E) pins σ H s):Inv X pins σ H s:=
 ⟨ok,I.os,I.bare,I.base,I.loc,I.cell,I.free,I.freeC,I.pin,I.hok,I.len⟩
theorem zg4 {pins:List (Addr×Obj)}{D:zaU}{f:Flow}{s':Shared}{A:Around}{E:Value→Shared→Prop}(ok:X.Ok)(h:SP (Cx.mrk X A E) pins D f s'):SP X pins D f s':=by
 cases f with
 | next=>obtain⟨σ',H',I,q⟩:=h; exact⟨σ',H',zea ok I,q⟩
 | brk=>obtain⟨σ',H',I,q⟩:=h; exact⟨σ',H',zea ok I,q⟩
 | cont=>obtain⟨σ',H',I,q⟩:=h; exact⟨σ',H',zea ok I,q⟩
 | ret u=>obtain⟨v,σ',H',I,r,q⟩:=h; exact⟨v,σ',H',zea ok I,r,q⟩
abbrev Cx.held (X:Cx)(pins:List (Addr×Obj))(E:Value→Shared→Prop):Cx:={ X with pn:=X.pn++pins,xe:=E }
theorem ziO (ok:X.Ok)(pins:List (Addr×Obj))(E:Value→Shared→Prop):(Cx.held X pins E).Ok:=
 ⟨ok.mod,ok.kind,ok.glob,ok.blt,ok.above,ok.inj,ok.has,ok.cab,ok.hd,ok.frames,ok.stk,ok.exf,ok.bs,ok.bsz,ok.noex,ok.exfs,ok.funs,ok.frf⟩
theorem zjp {pins:List (Addr×Obj)}{σ:St}{H:Hp}{s:Shared}(I:Inv X pins σ H s)(E:Value→Shared→Prop):Inv (Cx.held X pins E) [] σ H s:=
 ⟨ziO I.ok pins E,I.os,I.bare,I.base,I.loc,I.cell,I.free,I.freeC,λp hp=>I.pin p (by simpa using hp),I.hok,I.len⟩
theorem zec {pins:List (Addr×Obj)}{σ:St}{H:Hp}{s:Shared}{E:Value→Shared→Prop}(ok:X.Ok)(I:Inv (Cx.held X pins E) [] σ H s):Inv X pins σ H s:=
 ⟨ok,I.os,I.bare,I.base,I.loc,I.cell,I.free,I.freeC,λp hp=>I.pin p (by simpa using hp),I.hok,I.len⟩
theorem zkf {pins:List (Addr×Obj)}{D:zaU}{f:Flow}{s':Shared}{E:Value→Shared→Prop}(ok:X.Ok)(h:SP (Cx.held X pins E) [] D f s'):SP X pins D f s':=by
 cases f with
 | next=>obtain⟨σ',H',I,q⟩:=h; exact⟨σ',H',zec ok I,q⟩
 | brk=>obtain⟨σ',H',I,q⟩:=h; exact⟨σ',H',zec ok I,q⟩
 | cont=>obtain⟨σ',H',I,q⟩:=h; exact⟨σ',H',zec ok I,q⟩
 | ret u=>obtain⟨v,σ',H',I,r,q⟩:=h; exact⟨v,σ',H',zec ok I,r,q⟩
end
structure zaE (k:Nat)(A:Around):Prop where
 dp:A.depth+3*k+5<recursionLimit
 un:A.units+16*k+200<cLine
theorem zaE.mono {j k:Nat}{A:Around}(r:zaE k A)(h:j≤k):zaE j A:=⟨by have:=r.dp; omega,by have:=r.un; omega⟩
theorem zaE.deeper {k:Nat}{A:Around}(r:zaE (k+1) A)(env:Env):zaE k (A.deeper env):=
 ⟨by have:=r.dp; show A.depth+1+3*k+5<_; omega,by have:=r.un; show A.units+3+16*k+200<_; omega⟩
theorem ziD {k:Nat}{A:Around}(r:zan k A):zaE k A:=⟨r.dp,r.un⟩
abbrev cxN (P:Program)(w:World)(K:PySem.W.Frag)(mg:Str→Option Value)(base:Heap)(N:List Str)(qual:Str)(scope:Scope)(f:Addr)(cd:Value)(A:Around)(outer:List Env)(s:Shared)(H:Hp)(E:XK):Cx:=
 { zat (CXE P w) P w K mg base N qual scope f cd A outer s H E with calm:=false }
structure FnOkN (P:Program)(w:World)(K:PySem.W.Frag)(mg:Str→Option Value)(base:Heap)(k:Nat)(f:Addr)(fd:FuncData)(ps:List Str)(sp:Sp):Prop where
 len:∀vs H Q E,sp vs H Q E→vs.length=ps.length
 run:∀(A:Around) (outer:List Env) (s:Shared) (H:Hp) (args:Args) (us:List Value) (vs:List V) (Q:VK) (E:XK),zaE k A→zaY P w K mg base A outer s H→BindsTo s fd args (ps.zip us)→zac vs us→sp vs H Q E→
  codeAny (model P w) A (.call (.ref f) args) (CR (CXE P w) outer P w H s Q E) s
section
variable {X:Cx}{k:Nat}{f:Addr}{fd:FuncData}{ps:List Str}{sp:Sp}{W:St→XK}{x:Str}{p pos:Pos}{e:Expr}{es:List Expr}{t:TA}
end
section
variable {X:Cx}{Z:Zx}{x:Str}{p pos:Pos}{e:Expr}{es:List Expr}{t:TDA}
end
section
variable {P:Program}{w:World}{K:PySem.W.Frag}{mg:Str→Option Value}{base:Heap}
end
structure FkN (P:Program)(w:World)(K:PySem.W.Frag)(mg:Str→Option Value)(base:Heap)(k:Nat)(x:Str)(ps:List Str)(sd:Sd) where
 f:Addr
 fd:FuncData
 ok:FnOkN P w K mg base k f fd ps (upF K sd)
 m:mg x=some (.ref f)
 kp:PySem.W.keepIn K (.ref f)=true
 b:zaD K fd ps []
section
variable {X:Cx}{Z:Zx}
theorem zhb {Z':Zx}{r:List Addr}{H:Hp}{S:Sto}{E:zch}{F:zaU}(ret:zbA X.K Z r H E F)(rel:Rel X.K Z r S H):zbA X.K Z' r H E F:=by
 have back:∀ {H2:Hp} {r2:List Addr} {S2:Sto},Ext r r2 H H2→Rel X.K Z' r2 S2 H2→Rel X.K Z r2 S2 H2:=λx2 rel2=>⟨rel2.b,rel.xw.ext x2⟩
 exact⟨λσ2 H2 r2 dl2 S2 x2 rs2 rel2 q=>ret.nx σ2 H2 r2 dl2 S2 x2 rs2 (back x2 rel2) q,λσ2 H2 r2 dl2 S2 x2 rs2 rel2 q=>ret.bk σ2 H2 r2 dl2 S2 x2 rs2 (back x2 rel2) q,
  λσ2 H2 r2 dl2 S2 x2 rs2 rel2 q=>ret.ct σ2 H2 r2 dl2 S2 x2 rs2 (back x2 rel2) q,λv H2 r2 d S2 x2 rel2 p q=>ret.rt v H2 r2 d S2 x2 (back x2 rel2) p q⟩
theorem zfa {r:List Addr}{H:Hp}{a:Addr}{o:HO}(h:H a=none):Ext r r H (upd H a o):=⟨λ_ _ q=>q,λ_ _ q=>zbm h _ _ q,λ_ _ q=>zbm h _ _ q⟩
def dTryA (n i:Nat)(tb:(Ev→Addr→Sto→Prop)→TDS)(hit:Addr→Bool)(ts:TDS):TDS:=λE dl S=>tb (λdl0 c S'=>hit c=true∧ts { nx:=λdl' S2=>E.nx (dl'.set i none) S2,rt:=E.rt,bk:=λdl' S2=>E.bk (dl'.set i none) S2,ct:=λdl' S2=>E.ct (dl'.set i none) S2 } (dl0.set i (some (.exc c))) S') E dl S
theorem zfe {r:List Addr}{H:Hp}{dl:Ev}{σ:St}(i:Nat)(h:Rs r H dl σ):Rs r H (dl.set i none) (σ.set i none):=by
 refine⟨by simp[h.1],λj d e=>?_⟩;by_cases hij:i=j
 ·subst hij;have hl:i<dl.length:=by
   have:=(Vad.mp e).1;simpa using this
  rw[Vai hl] at e;cases e
 ·rw[Van hij] at e;obtain⟨v,h1,h2⟩:=h.2 j d e;exact⟨v,by rw[Van hij]; exact h1,h2⟩
open PySem.W in
end
abbrev VE:List Value:=[.type "ValueError",.type "Exception",.type "BaseException",.type "object"]
structure Ec (K:PySem.W.Frag)(mg:Str→Option Value)(x:Str) where
 c:Addr
 xc:Xc K mg x c VE "ValueError.__new__"
end L3
namespace L3
open PySem PySem.Spec PyProof.Rows L2
inductive Sco (n:Nat):D→Prop
 | non:Sco n .non
 | bl (b:Bool):Sco n (.bl b)
 | int (i:Int):Sco n (.int i)
 | str (x:Str):Sco n (.str x)
 | tup {ds:List D}:(∀d∈ds,Sco n d)→Sco n (.tup ds)
 | ref {m:Nat}:m<n→Sco n (.ref m)
 | xw (c:Addr) (x:Str):Sco n (.xw c x)
 | exc (c:Addr):Sco n (.exc c)
theorem Rp.sco {r:List Addr}{H:Hp}{d:D}{v:V}(h:Rp r H d v):Sco r.length d:=by
 induction h with
 | non=>exact .non
 | bl b=>exact .bl b
 | int i=>exact .int i
 | str x=>exact .str x
 | @tup ds xs a _ l _ ih=>
  refine .tup λd hd=>?_
  obtain⟨i,hi,e⟩:=VaM.mp hd;exact ih i d xs[i] (by simp[hi,e]) (by simp[l ▸ hi])
 | ref h=>exact .ref (Vad.mp h).1
 | xw _ _=>exact .xw _ _
 | exc _=>exact .exc _
theorem Rp.low {r r':List Addr}{H:Hp}{d:D}{v:V}(h:Rp r' H d v)(low:∀m a,m<r.length→r'[m]?=some a→r[m]?=some a)(s:Sco r.length d):Rp r H d v:=by
 induction h with
 | non=>exact .non
 | bl b=>exact .bl b
 | int i=>exact .int i
 | str x=>exact .str x
 | tup e l f ih=>
  cases s with
  | tup s=>exact .tup e l λi d v h1 h2=>ih i d v h1 h2 (s d (Vav h1))
 | ref h=>
  cases s with
  | ref s=>exact .ref (low _ _ s h)
 | xw h h2=>exact .xw h h2
 | exc h=>exact .exc h
def Pre (S S':Sto):Prop:=∀(n:Nat) (o:Ob),S[n]?=some o→S'[n]?=some o
theorem Pre.refl {S:Sto}:Pre S S:=λ_ _ h=>h
theorem Pre.push {S S':Sto}{o:Ob}(h:Pre S S'):Pre S (S'++[o]):=λn u e=>by
 have z:=h n u e;rw[Vap (Vad.mp z).1]; exact z
theorem Pre.trans {S S' S2:Sto}(h:Pre S S')(k:Pre S' S2):Pre S S2:=λn o e=>k n o (h n o e)
theorem zfi {r r':List Addr}{H H':Hp}(e:Ext r r' H H'):∀m a,m<r.length→r'[m]?=some a→r[m]?=some a:=λm a hm h=>by
 have z:r[m]?=some r[m]:=by simp[hm]
 rw[e.adr _ _ z] at h;rw[z]; exact h
theorem zaq.low {K:PySem.W.Frag}{r r':List Addr}{S S':Sto}{H H':Hp}(h:zaq K r S H)(e:Ext r r' H H')(h':zaq K r' S' H')(p:Pre S S'):zaq K r S H':=by
 have rl:∀ {ds:List D} {xs ys:List V},Rps r H ds xs→Rps r' H' ds ys→Rps r H' ds ys:=λ{ds xs ys} a b=>⟨b.1,λi d v h1 h2=>by
  obtain⟨v0,_,q⟩:=a.get h1;exact(b.2 i d v h1 h2).low (zfi e) q.sco⟩
 refine⟨h.len,λn a o h1 h2=>?_,λn m a xs ys h1 h2 h3 h4 o1 o2=>h'.nd n m a xs ys (e.adr _ _ h1) (e.adr _ _ h2) (p _ _ h3) (p _ _ h4) o1 o2⟩;have q:=h.ob n a o h1 h2
 have q':=h'.ob n a o (e.adr _ _ h1) (p _ _ h2);cases o with
 | lst ds=>
  obtain⟨xs,_,a1⟩:=q;obtain⟨ys,b0,b1⟩:=q';exact⟨ys,b0,rl a1 b1⟩
 | frz ds=>
  obtain⟨xs,_,a1⟩:=q;obtain⟨ys,b0,b1⟩:=q';exact⟨ys,b0,rl a1 b1⟩
 | ins C fs=>
  obtain⟨_,_,_,a1⟩:=q;obtain⟨dx,fs',b0,b1⟩:=q';exact⟨dx,fs',b0,b1.1,rl a1.2 b1.2⟩
 | dct kvs=>
  obtain⟨_,_,a1⟩:=q;obtain⟨ks,b0,b1⟩:=q';exact⟨ks,b0,b1.1,rl a1.2 b1.2⟩
 | dck kvs=>
  obtain⟨_,_,a1⟩:=q;obtain⟨ks,b0,b1⟩:=q';exact⟨ks,b0,b1.1,rl a1.2 b1.2⟩
 | tpl ws=>exact q'
 | cod P pos q0=>exact q'
def Gc (S:Sto)(Q:DK):DK:=λd S'=>Pre S S'∧Sco S.length d∧Q d S
def GcX (S:Sto)(ex:Addr→Sto→Prop):Addr→Sto→Prop:=λc S'=>Pre S S'∧ex c S
theorem Ret.gc {K:PySem.W.Frag}{Z Z':Zx}{r:List Addr}{S:Sto}{H:Hp}{Q:DK}{Qv:VK}(h:Ret K Z r H Q Qv)(rel:Rel K Z r S H):Ret K Z' r H (Gc S Q) Qv:=λv H' r' d S' e rel' p q=>by
 obtain⟨pre,sc,q⟩:=q;have e':Ext r r H H':=⟨λ_ _ z=>z,e.tup,e.xc⟩;rw[← rel.len] at sc;exact h v H' r d S e' ⟨rel.b.low e rel'.b pre,rel.xw.ext e'⟩ (p.low (zfi e) sc) q
theorem zbS.gc {K:PySem.W.Frag}{ex:Addr→Sto→Prop}{E:XK}{r:List Addr}{S:Sto}{H:Hp}(rel:Rel K (Zc ex E) r S H):zbS K (Zc (GcX S ex) E) r H:=λdl σ c H' r' S' e _ rb q=>by
 obtain⟨pre,q⟩:=q;have e':Ext r r H H':=⟨λ_ _ z=>z,e.tup,e.xc⟩;exact rel.xw [] [] c H' r S e' ⟨rfl,λi d z=>by simp at z⟩ (rel.b.low e rb pre) q
section
variable {P:Program}{w:World}{K:PySem.W.Frag}{mg:Str→Option Value}{base:Heap}
def gcS (sd:Sd):Sd:=λds S Q ex=>∃Q0 ex0,Q=Gc S Q0∧ex=GcX S ex0∧sd ds S Q0 ex0
theorem fn_gc {CX:CXT}{k:Nat}{f:Addr}{fd:FuncData}{ps:List Str}{sd:Sd}(h:zas P w K mg base CX k f fd ps (upF K (gcS sd))):zas P w K mg base CX k f fd ps (upF K sd):=by
 have imp:∀vs H Q E,upF K sd vs H Q E→upF K (gcS sd) vs H Q E:=λvs H Qv E ⟨ex,r,S,ds,Q,rel,p,q,ret⟩=>
  ⟨GcX S ex,r,S,ds,Gc S Q,⟨rel.b,zbS.gc rel⟩,p,⟨Q,ex,rfl,rfl,q⟩,ret.gc rel⟩
 obtain⟨h1,h2⟩:=h;exact⟨λvs H Q E q=>h1 vs H Q E (imp vs H Q E q),λA outer s H args us vs Q E hr e0 hb rv q=>h2 A outer s H args us vs Q E hr e0 hb rv (imp vs H Q E q)⟩
end
theorem ziG {sd:Sd}{n:Nat}(len:∀ds S Q ex,sd ds S Q ex→ds.length=n):∀ds S Q ex,gcS sd ds S Q ex→ds.length=n:=λds S Q ex h=>by
 obtain⟨Q0,ex0,_,_,h⟩:=h;exact len _ _ _ _ h
structure za9 (sc around:Scope)(x:Str)(caps:List Str):Prop where
 kind:sc.kind=.function
 nocell:∀y∈sc.names,y.2≠.cell
 own:∀y∈sc.names,y.2=.local→sc.names.lookup y.1=some .local
 loc:sc.names.lookup x=some .local
 cap:∀y∈caps,sc.names.lookup y=some .free
 out:∀y∈sc.names,y.2=.free→around.names.lookup y.1=some .cell
theorem ze0 {α:Type}{y:Str}{v:α}:∀ {l:List (Str×α)},l.lookup y=some v→(y,v)∈l
 | [],h=>by simp at h
 | (n,k)::r,h=>by
  cases e:y==n with
  | true=>
   rw[Vag,e] at h;have z:k=v:=Option.some.inj h
   have z2:y=n:=by simpa using e
   rw[z,z2]; exact Vat
  | false=>
   rw[Vag,e] at h;exact Vaq _ (ze0 h)
theorem zeT {env:Env}:∀(l:List (Str×NameKind)) (acc:List (Str×Addr)),(∀y∈l,y.2=.free→∃c,env.cells.lookup y.1=some c)→(∀x c,acc.lookup x=some c→env.cells.lookup x=some c)→
  ∃cl,(forIn l acc λx r=>(if (x.2==NameKind.free)=true then do let a ← cellOf env x.1; pure (ForInStep.yield ((x.1,a)::r)) else pure (ForInStep.yield r):Sem (ForInStep (List (Str×Addr)))))=pure cl∧
   (∀x c,cl.lookup x=some c→env.cells.lookup x=some c)∧(∀y∈l,y.2=.free→cl.lookup y.1=env.cells.lookup y.1)∧∀x c,acc.lookup x=some c→∃c',cl.lookup x=some c'
 | [],acc,_,ha=>⟨acc,by simp,ha,λy hy=>(by cases hy),λx c e=>⟨c,e⟩⟩
 | (n,k)::r,acc,h,ha=>by
  cases hk:(k==NameKind.free) with
  | false=>
   obtain⟨cl,h1,h2,h3,h4⟩:=zeT r acc (λy hy=>h y (Vaq _ hy)) ha;refine⟨cl,?_,h2,λy hy hf=>?_,h4⟩
   ·rw[Va7]; simp[hk]; simpa using h1
   ·have hy':=Vah.mp hy;rcases hy' with rfl | hy
    ·rw[show k=NameKind.free from hf] at hk; exact absurd hk (by decide)
    ·exact h3 y hy hf
  | true=>
   have hf:k=NameKind.free:=by simpa using hk
   obtain⟨c,hc⟩:=h (n,k) Vat hf;obtain⟨cl,h1,h2,h3,h4⟩:=zeT r ((n,c)::acc) (λy hy=>h y (Vaq _ hy)) (λx c' e=>by
    cases q:x==n with
    | true=>
     rw[Vag,q] at e;have z:x=n:=by simpa using q
     rw[z,hc]; exact e
    | false=>
     rw[Vag,q] at e;exact ha x c' e)
   refine⟨cl,?_,h2,λy hy hf=>?_,λx c' e=>?_⟩
   ·have ec:cellOf env n=pure c:=by unfold cellOf; rw[hc]
    rw[Va7]; simp[hk,ec]; simpa using h1
   ·have hy':=Vah.mp hy;rcases hy' with rfl | hy
    ·obtain⟨c',e⟩:=h4 n c (by simp);rw[e]; exact(h2 _ _ e).symm
    ·exact h3 y hy hf
   ·refine h4 x (if x==n then c else c') ?_;cases q:x==n with
    | true=>simp[Vag,q]
    | false=>simp[Vag,q,e]
theorem zf3 {sc:Scope}{env:Env}(h:∀y∈sc.names,y.2=.free→∃c,env.cells.lookup y.1=some c):
  ∃cl,closureFor sc env=pure cl∧(∀x c,cl.lookup x=some c→env.cells.lookup x=some c)∧∀y∈sc.names,y.2=.free→cl.lookup y.1=env.cells.lookup y.1:=by
 obtain⟨cl,h1,h2,h3,_⟩:=zeT sc.names [] h (λx c e=>by simp at e);refine⟨cl,?_,h2,h3⟩;unfold closureFor;simp only[bind_pure];exact h1
theorem zfE {env:Env}:∀ {names:List (Str×NameKind)} {x:Str},names.lookup x=some .free→
  (names.map λ(n,k)=>if (k==NameKind.free&&env.scope.kind==.function&&env.kindOf n==some .cell) then (n,NameKind.cell) else (n,k)).lookup x=some .cell∨
  (names.map λ(n,k)=>if (k==NameKind.free&&env.scope.kind==.function&&env.kindOf n==some .cell) then (n,NameKind.cell) else (n,k)).lookup x=some .free
 | [],_,h=>by simp at h
 | (n,k)::r,x,h=>by
  have ih:=@zfE env r x;rw[Vaf];cases hx:x==n with
  | true=>
   rw[Vag,hx] at h;have hk:k=.free:=Option.some.inj h;subst hk;dsimp only;split
   ·left; simp[Vag,hx]
   ·right; simp[Vag,hx]
  | false=>
   rw[Vag,hx] at h;dsimp only;split
   ·simp only[Vag,hx]; exact ih h
   ·simp only[Vag,hx]; exact ih h
theorem zfx {env:Env}:∀ {names:List (Str×NameKind)} {x:Str},(∀y∈names,y.2≠.cell)→
  ((names.map λ(n,k)=>if (k==NameKind.free&&env.scope.kind==.function&&env.kindOf n==some .cell) then (n,NameKind.cell) else (n,k)).lookup x=some .cell∨
  (names.map λ(n,k)=>if (k==NameKind.free&&env.scope.kind==.function&&env.kindOf n==some .cell) then (n,NameKind.cell) else (n,k)).lookup x=some .free)→names.lookup x=some .free
 | [],_,_,h=>by simp at h
 | (n,k)::r,x,hc,h=>by
  have ih:=@zfx env r x λy hy=>hc y (Vaq _ hy)
  rw[Vaf] at h;cases hx:x==n with
  | true=>
   rw[Vag,hx];dsimp only at h;split at h
   ·rename_i q;simp only[Vak] at q;have hk:k=.free:=by simpa using q.1.1
    rw[hk]
   ·simp only[Vag,hx] at h;rcases h with h | h
    ·exact absurd (Option.some.inj h) (hc (n,k) Vat)
    ·exact h
  | false=>
   rw[Vag,hx];dsimp only at h;split at h
   ·simp only[Vag,hx] at h; exact ih h
   ·simp only[Vag,hx] at h; exact ih h
abbrev Cx.comp (X:Cx)(sc:Scope)(N:List Str)(cl:List (Str×Addr))(C:Addr)(s0:Shared)(H0:Hp)(fp:List Addr)(pn:List (Addr×Obj)):Cx:=
 { X with N:=N,env:=compEnvC sc cl C X.env,s₀:=s0,H₀:=H0,outer:=X.stack,stack:=X.stack,ex:=fp,fn:=λ_=>false,pn:=pn,xe:=λ_ _=>False }
def zaA (caps:List Nat)(σ:St):St:=caps.map λj=>(σ[j]?).join
def zbj (caps:List Nat)(dl:Ev):Ev:=caps.map λj=>(dl[j]?).join
def zbI (caps:List Nat)(wi:TI)(tc:TT)(te:TE):TE:=λσ H Q=>wi σ H λJ H1=>∀D,H1 D=none→∃W:Nat→Nat→Hp→Prop,(∃m,W 0 m (upd H1 D (.lst [])))∧∀i m H,W i m H→
 (J.stop i H∧Q (.ref D) H)∨(J.go i H∧∀x H',J.yld i H x H'→tc (some x::zaA caps σ) H' λb H2=>if b=true then te (some x::zaA caps σ) H2 λy H3=>∃ys,H3 D=some (.lst ys)∧ys.length<sizeLine∧∃m',m'<m∧W (i+1) m' (upd H3 D (.lst (ys++[y])))
  else ∃m',m'<m∧W (i+1) m' H2)
def PTs (Y:Cx)(ifs:List Expr)(tc:TT):Prop:=∀(pins:List (Addr×Obj)) (s:Shared) (σ:St) (H:Hp) (Q:Bool→Hp→Prop),Inv Y pins σ H s→tc σ H Q→
 wpAny (model Y.prog Y.w) Y.A (forIn ifs true λc r=>if r=true then do let ok ← isTrue c Y.env (eval c Y.env); pure (ForInStep.yield ok) else pure (ForInStep.yield r)) (TP Y pins σ Q) Y.xe s
theorem zgH {Y:Cx}:PTs Y [] (λ_ H Q=>Q true H):=λ_ _ _ H _ I h=>wpAny_tests_nil ⟨H,I,h⟩
section
variable {X:Cx}{pins:List (Addr×Obj)}{σ:St}{H:Hp}{s:Shared}
theorem zfw {sc:Scope}{x:Str}{N:List Str}{caps:List Nat}{cl:List (Str×Addr)}{fp:List Addr}{h1:Heap}{m:Str→Option Value}{tk:Nat}(I:Inv X pins σ H s)(cs:za9 sc X.env.scope x N)
  (hN:∀(j:Nat) (y:Str),N[j]?=some y→∃i,caps[j]?=some i∧X.N[i]?=some y)(hlen:caps.length=N.length)
  (c1:∀x c,cl.lookup x=some c→X.env.cells.lookup x=some c)(c2:∀y∈sc.names,y.2=.free→cl.lookup y.1=X.env.cells.lookup y.1)
  (hf:∀b∈fp,zaS X pins H b)(hfo:∀b∈fp,b<s.heap.objs.size)(hns:h1.Ns s.heap.objs.size m)(hk:∀b o,s.heap.get? b=some o→h1.get? b=some o):
  Inv (Cx.comp X sc (x::N) cl s.heap.objs.size s H fp (X.pn++pins)) [] (none::zaA caps σ) H { s with heap:=h1,toks:=tk }:=by
 have stk:∀b∈frs X.stack,b=X.env.locals∨b∈X.fs:=λb hb=>Vah.mp (I.stkSub b hb)
 refine⟨⟨I.ok.mod,cs.kind,I.ok.glob,I.ok.blt,Vac _,λa b c h1 h2=>I.ok.inj a b c (c1 _ _ h1) (c1 _ _ h2),λy hy=>?_,λ_ _ z=>Bool.noConfusion z,I.ok.hd,I.ok.frames,.inl rfl,λb hb=>⟨Vab (hfo b hb),λy c e=>(hf b hb).2.2.2.2.1 y c (c1 _ _ e)⟩,
  I.bs,Vam I.ok.bsz I.sz,λb o e hb=>?_,λb hb z=>?_,I.stack,I.stkFree⟩,rfl,I.bare,Un.kept hk,⟨m,hns,λi y v e1 e2 e3=>?_⟩,λy c e=>?_,I.hok.fresh (Vac _),λy c e=>I.freeC y c (c1 _ _ e),λp hp=>?_,I.hok.kept hk,?_⟩
 ·have hfr:sc.names.lookup y=some .free:=zfx cs.nocell hy
  have hm:=ze0 hfr;obtain⟨c,e⟩:=I.ok.has y (.inl (cs.out _ hm rfl));exact⟨c,(c2 _ hm rfl).trans e⟩
 ·rcases (hf b hb).2.2.2.1 with z | z
  ·exact I.ok.noex b o e z
  ·exact absurd (Vaa (Heap.lt_size (I.ok.bs b o e).1) z) (Val _)
 ·rcases stk b z with z | z
  ·exact(hf b hb).2.1 z
  ·exact(hf b hb).2.2.1 z
 ·cases i with
  | zero=>simp at e2
  | succ i=>
   have e1':N[i]?=some y:=by simpa using e1
   obtain⟨j,hj,hy⟩:=hN i y e1';have e2':σ[j]?=some (some v):=by
    simp only[VaD,zaA,Var,hj,VaV,Option.some.injEq] at e2;cases q:σ[j]? with
    | none=>rw[q] at e2; cases e2
    | some o=>rw[q] at e2; simp at e2; rw[e2]
   have hfr:sc.names.lookup y=some .free:=cs.cap y (Vav e1')
   have hm:=ze0 hfr
   have hce:X.env.scope.names.lookup y=some .cell:=cs.out _ hm rfl;obtain⟨m0,_,hl⟩:=I.loc;obtain⟨u,r,l⟩:=hl j y v hy e2' (.inr (.inl hce));refine⟨u,r,.inr ⟨zfE hfr,?_⟩⟩;rcases l with ⟨k,_⟩ | ⟨_,c,ec,hcell⟩
   ·rw[show X.env.kindOf y=some .cell from hce] at k; cases k
   ·exact⟨c,(c2 _ hm rfl).trans ec,hcell.keeps hk⟩
 ·obtain⟨v,z⟩:=I.cell y c (c1 _ _ e);exact⟨v,z.keeps hk⟩
 ·have hp':p∈X.pn++pins:=by simpa using hp
  obtain⟨p1,p2,p3,p4,p5⟩:=I.pin p hp';refine⟨hk _ _ p1,p2,Vab (Heap.lt_size p1),λz=>?_,p5⟩;rcases stk _ z with z | z
  ·exact p3 z
  ·exact p4 z
 ·simp[zaA,hlen]
end
section
variable {X:Cx}{elt iter:Expr}{x:Str}{px pos:Pos}{ifs:List Expr}{sc:Scope}{N:List Str}{caps:List Nat}{wi:TI}{tc:TT}{te:TE}
structure zgP (X:Cx)(pins:List (Addr×Obj))(σ:St)(C:Addr)(Q:VK)(D:Addr)(s':Shared):Prop where
 q:∃H',Inv X pins σ H' s'∧Q (.ref D) H'∧H' C=none
 ns:∃m,s'.heap.Ns C m
 loc:C≠X.env.locals
 old:X.s₀.heap.objs.size≤C
 cell:∀x c,X.env.cells.lookup x=some c→c≠C
 pin:∀p∈X.pn++pins,p.1≠C
theorem zjX {use:Option (Value→Sem Unit)}{Qr:Value→Shared→Prop}(hc:X.calm=true)(cs:za9 sc X.env.scope x N)(hN:∀(j:Nat) (y:Str),N[j]?=some y→∃i,caps[j]?=some i∧X.N[i]?=some y)(hlen:caps.length=N.length)(hnd:(x::N).Nodup)
  (hi:PI X (.Name x px) iter wi)(ht:∀cl C s0 H0 fp pn,PTs (Cx.comp X sc (x::N) cl C s0 H0 fp pn) ifs tc)(he:∀cl C s0 H0 fp pn,PE (Cx.comp X sc (x::N) cl C s0 H0 fp pn) elt te)
  (hs:∀y,foldedSetIterable iter X.env y=pure y)
  {pins:List (Addr×Obj)}{s:Shared}{σ:St}{H:Hp}{Q:VK}{p2:Pos}(I:Inv X pins σ H s)(h:zbI caps wi tc te σ H Q)
  (fin:∀D C s',zgP X pins σ C Q D s'→compPost (model X.prog X.w) X.A X.xe use Qr (.ref D) C (.ok .next) s'):
  wpAny (model X.prog X.w) X.A (comprehension (.ListComp elt [⟨.Name x px,iter,ifs,0⟩] sc pos) sc X.env p2 (newList []) false (eval iter X.env) use) Qr X.xe s:=by
 obtain⟨cl,k1,k2,k3⟩:=zf3 (sc:=sc) (env:=X.env) λy hy hf=>I.ok.has y.1 (.inl (cs.out y hy hf))
 refine wpAny_comprehension_free rfl hs k1 cs.kind cs.own (thn (hi pins s σ H _ I h) λv s1 h1=>thn h1 λitv s2 h2=>?_);obtain⟨it,fp,tn,J,H2,e,I2,T,st2,f2,body⟩:=h2;subst e;have hfo:∀b∈fp,b<s2.heap.objs.size:=λb hb=>by
  obtain⟨o,e,_⟩:=T.obj _ _ st2 b hb;exact Heap.lt_size e
 have hD:H2 s2.heap.objs.size=none:=I2.hok.fresh (Vac _);obtain⟨W,⟨m0,w0⟩,turn⟩:=body _ hD;refine wpAny_newObj_type ?_;have I3:Inv X pins σ (upd H2 s2.heap.objs.size (.lst [])) { s2 with heap:=s2.heap.push { cls:=.type "list",dict:=none,data:=.seq ([]:List Value).toArray },toks:=s2.toks }:=
  I2.laid (t':=s2.toks) (λb u e=>Heap.get?_push_of_some _ e) (Vac _) ⟨VaA _,[],0,.nil,Heap.get?_push_size _ rfl⟩
 generalize hs3:({ s2 with heap:=s2.heap.push { cls:=.type "list",dict:=none,data:=.seq ([]:List Value).toArray },toks:=s2.toks }:Shared)=s3 at I3;have es3:({ s2 with heap:=s2.heap.push { cls:=.type "list",dict:=none,data:=.seq ([]:List Value).toArray } }:Shared)=s3:=hs3
 try rw[es3]
 have f3:∀b∈fp,zaS X pins (upd H2 s2.heap.objs.size (.lst [])) b:=λb hb=>⟨by rw[zah (Vab (hfo b hb))]; exact(f2 b hb).1,(f2 b hb).2⟩
 have up3:∀b o,s2.heap.get? b=some o→s3.heap.get? b=some o:=λb o e=>by rw[← hs3]; exact Heap.get?_push_of_some _ e
 have st3:tn 0 s3.heap:=T.keep _ _ _ st2 λb _ o e=>up3 b o e
 have hfo3:∀b∈fp,b<s3.heap.objs.size:=λb hb=>by
  obtain⟨o,e,_⟩:=T.obj _ _ st3 b hb;exact Heap.lt_size e
 refine wpAny_newFunctionEnv cs.nocell (λy hy=>by simp at hy) (λh4 ns4 sb4=>?_) cs.kind;have hk4:∀b o,s3.heap.get? b=some o→h4.get? b=some o:=λb o e=>(sb4.2 b (Vab (Heap.lt_size e))).trans (Heap.get?_push_of_some _ e)
 have I4:=zfw (tk:=s3.toks+([]:List (Str×Value)).length) I3 cs hN hlen k2 k3 f3 hfo3 ns4 hk4;generalize hs4:({ s3 with heap:=h4,toks:=s3.toks+([]:List (Str×Value)).length }:Shared)=s4 at I4 ⊢;have eh4:s4.heap=h4:=by rw[← hs4]
 have st4:tn 0 s4.heap:=by rw[eh4]; exact T.keep _ _ _ st3 λb _ o e=>hk4 b o e
 have fY:∀ {H':Hp},(∀b∈fp,H' b=none)→∀b∈fp,zaS (Cx.comp X sc (x::N) cl s3.heap.objs.size s3 (upd H2 s2.heap.objs.size (.lst [])) fp (X.pn++pins)) [] H' b:=λhn b hb=>by
  obtain⟨_,z2,z3,z4,z5,z6⟩:=f3 b hb;refine⟨hn b hb,Vab (hfo3 b hb),λz=>?_,.inl hb,λy c e=>z5 y c (k2 _ _ e),λp hp=>z6 p (by simpa using hp)⟩;rcases Vah.mp (I3.stkSub b z) with z | z
  ·exact z2 z
  ·exact z3 z
 have locY:(Cx.comp X sc (x::N) cl s3.heap.objs.size s3 (upd H2 s2.heap.objs.size (.lst [])) fp (X.pn++pins)).env.scope.names.lookup x=some .local:=lookup_relabel_local cs.loc
 have loop:codeAny (model X.prog X.w) X.A (.compLoop (.ListComp elt [⟨.Name x px,iter,ifs,0⟩] sc pos) 0 (.ref it) (.ref s2.heap.objs.size) (compEnvC sc cl s3.heap.objs.size X.env))
   (compPost (model X.prog X.w) X.A X.xe use Qr (.ref s2.heap.objs.size) s3.heap.objs.size) s4:=by
  refine codeAny_compLoop_tests (λn s'=>∃i o H',Inv (Cx.comp X sc (x::N) cl s3.heap.objs.size s3 (upd H2 s2.heap.objs.size (.lst [])) fp (X.pn++pins)) [] (o::zaA caps σ) H' s'∧tn i s'.heap∧(∀b∈fp,H' b=none)∧W i n H') ?_ m0
   ⟨0,none,_,I4,st4,λb hb=>(f3 b hb).1,w0⟩
  rintro n s5 ⟨i,o,H5,I5,st5,fr5,w5⟩;rcases turn i n H5 w5 with ⟨stop,q⟩ | ⟨go,step⟩
  ·refine thn (T.done (Cx.comp X sc (x::N) cl s3.heap.objs.size s3 (upd H2 s2.heap.objs.size (.lst [])) fp (X.pn++pins)) rfl rfl rfl hc i [] s5 _ H5 _ I5 (fY fr5) st5 stop) λr s6 ⟨hr,I6⟩=>?_
   subst hr;refine fin _ _ _ ⟨⟨H5,I3.call' I6.os I6.base I6.hok I6.bare (λb hb=>?_),q,I6.free⟩,?_,VaR I3.lt,I3.sz,λy c e z=>?_,λp hp z=>?_⟩
   ·obtain⟨_,z2,z3,z4,z5,z6⟩:=f3 b hb;exact⟨z4,z2,z5,z6⟩
   ·obtain⟨m,hm,_⟩:=I6.loc;exact⟨m,hm⟩
   ·obtain⟨v,hv⟩:=I3.cell y c e;exact absurd (z ▸ hv.lt) (Val _)
   ·exact absurd (z ▸ Heap.lt_size (I3.pin p hp).1) (Val _)
  ·refine thn (T.item (Cx.comp X sc (x::N) cl s3.heap.objs.size s3 (upd H2 s2.heap.objs.size (.lst [])) fp (X.pn++pins)) rfl rfl rfl hc i [] s5 _ H5 _ I5 (fY fr5) st5 go) λr s6 ⟨u,hr,h6⟩=>?_
   subst hr;show wpAny _ _ (letOwnedTupleGo (.Name x px) (.ref it) u >>= λ_=>assign (.Name x px) (compEnvC sc cl s3.heap.objs.size X.env) u) _ _ s6;refine wpAny_bind (thn h6 λ_ s7 ⟨y,H7,I7,r7,y7,st7,fr7⟩=>?_);have I7':=I7.pinned (fY fr7) (T.obj _ _ st7);refine wpAny_mono (zgA (X:=Cx.comp X sc (x::N) cl s3.heap.objs.size s3 (upd H2 s2.heap.objs.size (.lst [])) fp (X.pn++pins)) (pos:=px) hnd (i:=0) rfl (.inl locY) (.inr locY) _ s7 _ H7 y u (λσ8 H8=>σ8=some y::zaA caps σ∧H8=H7) I7' r7 ⟨rfl,rfl⟩) (λ_ s8 ⟨σ8,H8,I8,e8,e8'⟩=>?_) λ_ _ z=>z.elim
   subst e8;subst e8';have stay:∀ {H':Hp} {s':Shared},Inv (Cx.comp X sc (x::N) cl s3.heap.objs.size s3 (upd H2 s2.heap.objs.size (.lst [])) fp (X.pn++pins)) ([]++zcn fp s7.heap) (some y::zaA caps σ) H' s'→∀m',m'<n→W (i+1) m' H'→
     ∃m,m<n∧∃i o H',Inv (Cx.comp X sc (x::N) cl s3.heap.objs.size s3 (upd H2 s2.heap.objs.size (.lst [])) fp (X.pn++pins)) [] (o::zaA caps σ) H' s'∧tn i s'.heap∧(∀b∈fp,H' b=none)∧W i m H':=λ{H' s'} J m' hm w'=>by
    refine⟨m',hm,i+1,some y,H',J.unpinned,T.keep _ _ _ st7 λb hb o e=>(J.pin (b,o) (Vao _ (Vao _ (zde hb e)))).1,λb hb=>?_,w'⟩;obtain⟨o,e,d⟩:=T.obj _ _ st7 b hb;exact(J.pin (b,o) (Vao _ (Vao _ (zde hb e)))).2.1
   refine wpAny_mono (ht _ _ _ _ _ _ _ s8 _ H8 _ I8 (step y H8 y7)) (λb s9 ⟨H9,I9,q9⟩=>?_) λ_ _ z=>z.elim
   cases b with
   | false=>
    rw[if_neg Vae] at q9 ⊢;obtain⟨m',hm,w9⟩:=q9;exact stay I9 m' hm w9
   | true=>
    rw[if_pos rfl] at q9 ⊢;refine wpAny_mono (he _ _ _ _ _ _ _ s9 _ H9 _ I9 q9) (λu2 s10 ⟨z,H10,I10,r10,q10⟩=>?_) λ_ _ z=>z.elim
    obtain⟨ys,hD10,hlt,m',hm,w10⟩:=q10;refine wpAny_mono (zfM (X:=(Cx.comp X sc (x::N) cl s3.heap.objs.size s3 (upd H2 s2.heap.objs.size (.lst [])) fp (X.pn++pins))) _ s10 _ H10 (.ref s2.heap.objs.size) [z] (.ref s2.heap.objs.size) [u2] (λ_ H'=>H'=upd H10 s2.heap.objs.size (.lst (ys++[z]))) I10 rfl (.cons r10 .nil) ⟨_,ys,z,rfl,rfl,hD10,hlt,rfl⟩) (λ_ s11 ⟨_,H11,I11,_,e11⟩=>?_) λ_ _ z=>z.elim
    subst e11;exact stay I11 m' hm w10
 exact codeAny_compStart_list loop (T.self _ 0 s4 _ _ st4 loop)
theorem zb9 {X:Cx}{caps:List Nat}{N:List Str}(h:caps.map (λi=>X.N[i]?)=N.map some):(∀(j:Nat) (y:Str),N[j]?=some y→∃i,caps[j]?=some i∧X.N[i]?=some y)∧caps.length=N.length:=by
 refine⟨λj y e=>?_,by simpa using congrArg List.length h⟩;have z:(caps.map (λi=>X.N[i]?))[j]?=some (some y):=by rw[h,Var,e]; rfl
 rw[Var] at z;cases q:caps[j]? with
 | none=>rw[q] at z; cases z
 | some i=>rw[q] at z; exact⟨i,rfl,by simpa using z⟩
theorem zhf (hc:X.calm=true)(cs:za9 sc X.env.scope x N)(hN:caps.map (λi=>X.N[i]?)=N.map some)(hnd:(x::N).Nodup)
  (hi:PI X (.Name x px) iter wi)(ht:∀cl C s0 H0 fp pn,PTs (Cx.comp X sc (x::N) cl C s0 H0 fp pn) ifs tc)(he:∀cl C s0 H0 fp pn,PE (Cx.comp X sc (x::N) cl C s0 H0 fp pn) elt te)
  (hs:∀y,foldedSetIterable iter X.env y=pure y:=by intro _; rfl):PE X (.ListComp elt [⟨.Name x px,iter,ifs,0⟩] sc pos) (zbI caps wi tc te):=by
 intro pins s σ H Q I h;rw[eval_ListComp];refine zjX (use:=none) hc cs (zb9 hN).1 (zb9 hN).2 hnd hi ht he hs I h λD C s' f=>?_
 obtain⟨⟨H',I',q,hC⟩,⟨m,ns⟩,l,o,c,p⟩:=f;exact⟨m,ns,λh' sb=>⟨.ref D,H',I'.turned (t':=s'.toks) (λb ob hb e=>(sb.2 b hb).trans e) hC l (.inr o) c p,rfl,q⟩⟩
end
section
variable {X:Cx}{Z:Zx}{elt iter:Expr}{x:Str}{px pos:Pos}{ifs:List Expr}{sc ar:Scope}{N:List Str}{caps:List Nat}
theorem zgw {r:List Addr}{H:Hp}{dl:Ev}{σ:St}{d:D}{v:V}(h:Rs r H dl σ)(p:Rp r H d v):Rs r H (some d::zbj caps dl) (some v::zaA caps σ):=by
 refine⟨by simp[zbj,zaA],λi e hi=>?_⟩;cases i with
 | zero=>simp at hi; subst hi; exact⟨v,rfl,p⟩
 | succ i=>
  simp only[VaD,zbj,Var] at hi;cases q:caps[i]? with
  | none=>rw[q] at hi; cases hi
  | some j=>
   rw[q] at hi;simp only[VaV,Option.some.injEq] at hi;have hj:dl[j]?=some (some e):=by
    cases q2:dl[j]? with
    | none=>rw[q2] at hi; cases hi
    | some o=>rw[q2] at hi; simp at hi; rw[hi]
   obtain⟨w,h1,h2⟩:=h.2 j e hj;refine⟨w,?_,h2⟩;simp only[VaD,zaA,Var,q,VaV,h1,Option.join_some]
def PDTs (Y:Cx)(ifs:List Expr)(t:TDT):Prop:=PTs Y ifs (upT Y.K Z0 t)
def zcd:TDT:=λ_ S Q=>Q true S
theorem ziI {Y:Cx}:PDTs Y [] zcd:=λpins s σ H Qb I ⟨r,dl,S,Q,rs,rel,q,ret⟩=>zgH pins s σ H Qb I (ret true H r S Ext.refl rel q)
def zcD (caps:List Nat)(tc:TDT)(te:TDE)(k:Nat)(dl:Ev)(d:D)(S:Sto)(nx:Sto→Prop):Prop:=
 tc (some d::zbj caps dl) S λb S1=>if b=true then te (some d::zbj caps dl) S1 λy S2=>match S2[k]? with
  | some (.lst ys)=>ys.length<1000∧nx (S2.set k (.lst (ys++[y])))
  | _=>False
 else nx S1
@[irreducible] def za2 (caps:List Nat)(ta:TDA)(tc:TDT)(te:TDE):TDE:=λdl S Q=>ta dl S λds S1=>match ds with
 | [.int j]=>(-(2^62)≤j∧j<2^62)∧∃W:Nat→Sto→Prop,W 0 (S1++[.lst []])∧∀k S2,W k S2→
   if k<j.toNat then zcD caps tc te S1.length dl (.int k) S2 λS3=>W (k+1) S3 else Q (.ref S1.length) S2
 | _=>False
theorem zhl {tc:TDT}{te:TDE}{r2:List Addr}{H2:Hp}{S1 S2:Sto}{dl:Ev}{σ:St}{D0:Addr}{d:D}{v:V}{nx:Sto→Prop}{Nx:Hp→Prop}(rs:Rs r2 H2 dl σ)(ha:r2[S1.length]?=some D0)(rb:zaq X.K r2 S2 H2)(p:Rp r2 H2 d v)
  (h:zcD caps tc te S1.length dl d S2 nx)(hn:∀r' S' H',Ext r2 r' H2 H'→zaq X.K r' S' H'→nx S'→Nx H'):
  upT X.K Z0 tc (some v::zaA caps σ) H2 λb H3=>if b=true then up X.K Z0 te (some v::zaA caps σ) H3 λy H4=>∃ys,H4 D0=some (.lst ys)∧ys.length<sizeLine∧Nx (upd H4 D0 (.lst (ys++[y]))) else Nx H3:=by
 have rsY:Rs r2 H2 (some d::zbj caps dl) (some v::zaA caps σ):=zgw rs p;refine⟨r2,_,S2,_,rsY,⟨rb,λ_ _ _ _ _ _ _ _ _ z=>z.elim⟩,h,λb H3 r3 S3 x3 rel3 q3=>?_⟩;cases b with
 | false=>rw[if_neg Vae] at q3 ⊢; exact hn r3 S3 H3 x3 rel3.b q3
 | true=>
  rw[if_pos rfl] at q3 ⊢;refine⟨r3,_,S3,_,rsY.ext x3,rel3,q3,λz H4 r4 dz S4 x4 rel4 p4 q4=>?_⟩;split at q4
  ·rename_i ys eys;obtain⟨hl,q4⟩:=q4;have ha4:r4[S1.length]?=some D0:=x4.adr _ _ (x3.adr _ _ ha);obtain⟨zs,hD4,pz⟩:=rel4.b.ob _ _ _ ha4 eys;obtain⟨rel5,x5⟩:=rel4.b.set ha4 eys (pz.snoc p4);exact⟨zs,hD4,by rw[← pz.1]; exact zek (Vaw hl),hn r4 _ _ (x3.trans (x4.trans x5)) rel5 q4⟩
  ·exact q4.elim
theorem zfX {r:List Addr}{D0:Addr}{n:Nat}(h:r.length=n):(r++[D0])[n]?=some D0:=by subst h; simp
theorem zjP {ta:TDA}{tc:TDT}{te:TDE}{σ:St}{H:Hp}{Qv:VK}(h:up X.K Z (za2 caps ta tc te) σ H Qv):zbI caps (zgv (upA X.K Z ta)) (upT X.K Z0 tc) (up X.K Z0 te) σ H Qv:=by
 obtain⟨r,dl,S,Q,rs,rel,h,ret⟩:=h;unfold za2 at h;refine⟨r,dl,S,_,rs,rel,h,λvs H1 r1 ds S1 x1 rel1 p1 q1=>?_⟩;split at q1
 ·rename_i j;obtain⟨v,vs',rfl,p2,p3⟩:=p1.uncons;have z:=p3.unnil;subst z;cases p2;obtain⟨⟨b1,b2⟩,W,w0,turn⟩:=q1;refine⟨j,rfl,b1,b2,λD0 hD=>?_⟩;obtain⟨rel2,x2⟩:=rel1.b.push (ds:=[]) (xs:=[]) hD Rps.nil;refine⟨λk m H'=>m=j.toNat-k∧∃r' S',Ext (r1++[D0]) r' (upd H1 D0 (.lst [])) H'∧zaq X.K r' S' H'∧W k S',⟨j.toNat,by simp,_,_,Ext.refl,rel2,w0⟩,?_⟩;rintro k m H2 ⟨em,r2,S2,x3,rb2,w2⟩;have ha2:r2[S1.length]?=some D0:=x3.adr _ _ (zfX rel1.len)
  have q:=turn k S2 w2;split at q
  ·rename_i hk;refine .inr ⟨hk,λv' H' y'=>?_⟩;obtain⟨eH,y'⟩:=y';subst eH;subst y';have pk:Rp r2 H' (.int (k:Int)) (.int (0+(k:Int))):=by rw[Int.zero_add]; exact .int _
   have z:=zhl (Nx:=λH'=>∃m',m'<m∧m'=j.toNat-(k+1)∧∃r' S',Ext (r1++[D0]) r' (upd H1 D0 (.lst [])) H'∧zaq X.K r' S' H'∧W (k+1) S') (rs.ext (x1.trans (x2.trans x3))) ha2 rb2 pk q
    λr' S' H' x' rb' w'=>⟨j.toNat-(k+1),by omega,rfl,r',S',x3.trans x',rb',w'⟩
   exact z
  ·rename_i hk;exact .inl ⟨by show j.toNat≤k; omega,ret _ H2 r2 _ S2 (x1.trans (x2.trans x3)) ⟨rb2,rel.xw.ext (x1.trans (x2.trans x3))⟩ (.ref ha2) q⟩
 ·exact q1.elim
theorem ziz {ta:TDA}{tc:TDT}{te:TDE}{a:Expr}{p pos2:Pos}(har:X.env.scope=ar)(hc:X.calm=true)(cs:za9 sc ar x N)(hN:caps.map (λi=>X.N[i]?)=N.map some)(hnd:(x::N).Nodup)(hg:Gl X "range")(hm:X.mg "range"=none)(ha:PDA X Z [a] ta)
  (ht:∀cl C s0 H0 fp pn,PDTs (Cx.comp X sc (x::N) cl C s0 H0 fp pn) ifs tc)(he:∀cl C s0 H0 fp pn,PD (Cx.comp X sc (x::N) cl C s0 H0 fp pn) Z0 elt te)
  (hs:∀y,foldedSetIterable (.Call (.Name "range" p) [a] [] pos2) X.env y=pure y:=by intro _; rfl)(hst:starEach [a] X.env=[(false,eval a X.env)]:=by rfl):
  PD X Z (.ListComp elt [⟨.Name x px,.Call (.Name "range" p) [a] [] pos2,ifs,0⟩] sc pos) (za2 caps ta tc te):=by
 subst har;exact zay (zhf hc cs hN hnd (tc:=upT X.K Z0 tc) (te:=up X.K Z0 te) (ziv hg hm ha hst) ht he hs) λ_ _ _ h=>zjP h
theorem zhx {t:TE}{td:TDE}{i:Nat}{F:zaU}{σ:St}{H:Hp}(imp:∀Qv,up X.K Z td σ H Qv→t σ H Qv)(h:upS X.K Z (λE dl S=>td dl S λd S1=>E.nx (dl.set i (some d)) S1) F σ H):t σ H λv H1=>F.nx (σ.set i (some v)) H1:=by
 obtain⟨r,dl,S,E,rs,rel,h,ret⟩:=h;exact imp _ ⟨r,dl,S,_,rs,rel,h,λv H1 r1 d S1 x rel1 p q=>ret.nx _ H1 r1 _ S1 x ((rs.ext x).set i p) rel1 q⟩
@[irreducible] def zb1 (w:W2):W2:=w
theorem zdR (w:W2):zb1 w=w:=by unfold zb1; rfl
theorem zhm (S:Sto)(o:Ob):(S++[o])[S.length]?=some o:=by simp
end
end L3
namespace L3
open PySem PySem.Spec PyProof.Rows L2 PySem.W Builtin Builtin.ObjectAttr Builtin.Getset_descriptor
theorem zg6 {K:Frag}{M:Model}{h:Heap}{x D:Addr}{name:Str}{a g:Value}(X:K.In h)(ha:findIn K (.ref D) name=some (some a))(hn:specialIn K a "__get__"=some (some g))(ht:takesIn K a=some true):Looks M h (find (.ref x) (.ref D) name) (.bind g a):=by
 have l1:=looks_findIn (M:=M) X ha
 have l2:Looks M h (getOf (some a)) (some g):=looks_specialIn X hn
 have l3:Looks M h (dataDescriptor? (some a) (some g)) (some (g,a)):=(looks_takesIn X ht).andThen .now;exact l1.andThen (l2.andThen (l3.andThen (Looks.tag .now)))
theorem zib {prog:Program}{w:World}{A:Around}{K:Frag}{x D:Addr}{tp:Value}{R:Result→Shared→Prop}{s:Shared}(X:K.In s.heap)(T:Looks (model prog w) s.heap (typeOf (.ref x)) (.ref D))(hm:mroIn K D (.type "object")=some true)
  (q:R (.ok (.ret (.ref D))) s):codeAny (model prog w) A (.call (.builtin "getset_descriptor.__get__") ⟨[.builtin "object.__class__",.ref x,tp],[]⟩) R s:=by
 obtain⟨h0,g0,d0,t0,o0⟩:=s;have l4:=looks_mroIn (M:=model prog w) X hm;refine codeAny_call_builtin KF.slot_gs.plain KF.entry_gs (KF.slot_gs.check _ _ _ _ _ _ _ _ KF.type_class (KF.args_gs _ _ _) ?_); unfold Builtin.«getset_descriptor.__get__» descrGet; rw[dga_obj]; refine wpAny_bind (wpAny_pure ?_)
 unfold descrGetter descrCheckInstance descrNameAndClass isInstance; simp only[KF.owner_class]; repeat lk
 refine⟨Code.quiet_builtin _ (by decide +kernel),codeAny_builtin KF.entry_class ?_⟩; unfold Builtin.«object.__class__» shownTypeOf
 repeat lk
 exact q
theorem zgX {prog:Program}{w:World}{A:Around}{E:Value→Shared→Prop}{K:Frag}{x D:Addr}{Q:Option Value→Shared→Prop}{s:Shared}(X:K.In s.heap)(T:Looks (model prog w) s.heap (typeOf (.ref x)) (.ref D))
  (hga:findIn K (.ref D) "__getattribute__"=some (some (.builtin "BaseException.__getattribute__")))(hk:findIn K (.ref D) "__getattr__"=some none)(ha:findIn K (.ref D) "__class__"=some (some (.builtin "object.__class__")))
  (hn:specialIn K (.builtin "object.__class__") "__get__"=some (some (.builtin "getset_descriptor.__get__")))(ht:takesIn K (.builtin "object.__class__")=some true)(hm:mroIn K D (.type "object")=some true)(hb:mroIn K D (.type "BaseException")=some true)
  (q:Q (some (.ref D)) { s with toks:=s.toks+1 }):wpAny (model prog w) A (getAttr? (.ref x) "__class__") Q E s:=by
 obtain⟨h0,g0,d0,t0,o0⟩:=s;have l1:=looks_findIn (M:=model prog w) X hga
 have l2:=looks_findIn (M:=model prog w) X hk
 have l3:=zg6 (M:=model prog w) (x:=x) X ha hn ht
 have l5:=looks_mroIn (M:=model prog w) X hb
 have f3:=F.excAttr_ValueError.ga.bind (.ref x);unfold getAttr? getAttrBy?;unfold getAttrBy;refine wpAny_bind (wpAny_mkText (wpAny_bind (wpAny_attempt (wpAny_holding (wpAny_bind (T.at (wpAny_bind (l1.at ?_))))))));dsimp only;have other:("BaseException.__getattribute__" == "object.__getattribute__")=false:=by decide +kernel
 rw[if_neg (λz=>by
  have y:=(VaN.mp z).2
  have y2:"BaseException.__getattribute__"="object.__getattribute__":=Value.builtin.inj (beq_iff_eq.mp y);rw[y2] at other;simp at other)]
 unfold getAttrByItsOwn hookBefore;refine wpAny_bind ?_
 lk
 lk
 refine wpAny_bind (wpAny_attempt ?_); refine wpAny_holding ?_; show wpAny _ _ (boundAndCalled _ _ _) _ _ _
 unfold boundAndCalled;refine wpAny_bind (wpAny_of_eq f3 ?_);refine wpAny_call (codeAny_call_builtin F.excAttr_ValueError.ga.plain F.entry_bexc_ga ?_);have k1:builtinKind "BaseException.__getattribute__"=some .slot:=by decide +kernel
 have k2:splitId "BaseException.__getattribute__"=some ("BaseException","__getattribute__"):=by decide +kernel
 have k3:=F.args_bexc_ga (.ref x) (.str "__class__" t0)
 have li:Looks (model prog w) h0 (isInstance (.ref x) (.type "BaseException")) true:=T.andThen l5;simp only[checkBuiltinCall,k1,k2];refine wpAny_bind (li.at ?_);rw[if_neg (by decide)];have go:wpAny (model prog w) A.in1 («object.__getattribute__» ⟨[.ref x,.str "__class__" t0],[]⟩) (λfin s'=>fin=.done (.ret (.ref D))∧s'=⟨h0,g0,d0,t0+1,o0⟩) (λ_ _=>False) ⟨h0,g0,d0,t0+1,o0⟩:=by
  unfold «object.__getattribute__»;refine wpAny_bind (wpAny_pure (wpAny_bind (wpAny_pure (wpAny_bind (T.at ?_)))));refine wpAny_bind (l3.at ?_);show wpAny _ _ (holding [Value.builtin "object.__class__"] (call (.builtin "getset_descriptor.__get__") [.builtin "object.__class__",.ref x,.ref D]) >>= ret) _ _ _;exact wpAny_bind (wpAny_holding (wpAny_call (zib (s:=⟨h0,g0,d0,t0+1,o0⟩) X T hm (wpAny_pure ⟨rfl,rfl⟩))))
 have step:∀ {P:Unit→Shared→Prop} {E':Value→Shared→Prop},P () ⟨h0,g0,d0,t0+1,o0⟩→wpAny (model prog w) A.in1 (match Manifest.signature? "BaseException.__getattribute__" with
   | some sig=>Bind.checkArgs "BaseException.__getattribute__" sig ⟨[.ref x]++[.str "__class__" t0],[]⟩
   | _=>pure ()) P E' ⟨h0,g0,d0,t0+1,o0⟩:=λ{P E'} hp=>by
  unfold argsOk at k3;split
  ·rename_i sig hsig;simp only[hsig] at k3;exact wpAny_of_eq k3 hp
  ·exact wpAny_pure hp
 refine step (wpAny_mono go (λfin s' z=>?_) λ_ _ z=>z.elim);obtain⟨e1,e2⟩:=z;subst e1 e2;exact handed_on rfl (wpAny_pure q)
structure Nx (K:Frag)(D:Addr):Prop where
 ga:findIn K (.ref D) "__getattribute__"=some (some (.builtin "BaseException.__getattribute__"))
 hk:findIn K (.ref D) "__getattr__"=some none
 ha:findIn K (.ref D) "__class__"=some (some (.builtin "object.__class__"))
 hn:specialIn K (.builtin "object.__class__") "__get__"=some (some (.builtin "getset_descriptor.__get__"))
 ht:takesIn K (.builtin "object.__class__")=some true
 hm:mroIn K D (.type "object")=some true
 hb:mroIn K D (.type "BaseException")=some true
theorem zjC {K:Frag}{x D:Addr}(n:Nx K D):KitX K (.ref x) (.ref D) (λh=>∃o,h.get? x=some o∧o.cls=.ref D):=by
 have ty:∀(M:Model) (h:Heap),K.In h→(∃o,h.get? x=some o∧o.cls=.ref D)→Looks M h (typeOf (.ref x)) (.ref D):=λM h _ p=>by
  obtain⟨o,h1,h2⟩:=p;rw[← h2];exact(Looks.ld h1).andThen .now
 have cl:∃oc od cd sl,K.lookup D=some ⟨oc,od,.cls cd,sl⟩:=by
  obtain⟨cd,e,_⟩:=VaY.mp n.hm;unfold clsIn at e;split at e
  ·rename_i oc od cd' sl ho;exact⟨oc,od,cd',sl,ho⟩
  ·cases e
 obtain⟨oc,od,cd,sl,ho⟩:=cl;refine⟨ty,λM h X _=>?_,λh tp dd its k sl' X htp=>?_,λ{prog w A E Q s} X p q=>zgX X (ty _ _ X p) n.ga n.hk n.ha n.hn n.ht n.hm n.hb q⟩
 ·intro A' Q' E' s' k z;unfold isType loadHead;exact wpAny_bind (wpAny_loadPart (k _ _ (X _ _ ho)) (wpAny_pure z))
 ·refine Bool.eq_false_iff.mpr λz=>?_
  have e:D=tp:=Value.ref.inj (beq_iff_eq.mp z);subst e;have y:=(X _ _ ho).symm.trans htp;cases y
section
variable {X:Cx}{Z:Zx}
@[irreducible] def zbg (ans:Addr→Option Bool)(te:TDE):TDE:=λdl S Q=>te dl S λd S1=>match d with
 | .exc c | .xw c _=>match ans c with
  | some b=>Q (.bl b) S1
  | none=>False
 | _=>False
def zf0 (K:PySem.W.Frag)(vc:V)(cv:Value):List V→Hp→VK→Prop:=λxs H Qv=>∃a c b,xs=[.ref a,vc]∧(H a=some (isX a c)∨∃dx,H a=some (isW a c dx))∧PySem.W.kitOne K (.ref c) cv=some b∧Nx K c∧Qv (.bl b) H
theorem zfZ {vc:V}{cv:Value}(hv:∀u,zab vc u→u=cv):zaQ X (.builtin "isinstance") (zf0 X.K vc cv):=by
 intro pins s σ H xs us Q I rv h;obtain⟨a,c,b,rfl,h1,h2,nx,q⟩:=h;obtain⟨u,w',rfl,r1,r2⟩:=zgr rv;cases r1;have e:=hv w' r2;subst e;have ob:∃o,s.heap.get? a=some o∧o.cls=.ref c:=h1.elim (λh1=>(I.hok a _ h1).1.imp λ_ x=>⟨x.1,x.2.1⟩) λ⟨dx,h1⟩=>(I.hok a _ h1).1.imp λ_ x=>⟨x.1,x.2.1⟩
 exact kia_one (zjC nx) I.kIn ob h2 (λz=>nomatch z) λtk=>⟨.bl b,H,I.tok tk,rfl,q⟩
theorem zgj {te:TDE}{ans:Addr→Option Bool}{vc:V}{cv:Value}(hy:∀c b,ans c=some b→PySem.W.kitOne X.K (.ref c) cv=some b∧Nx X.K c){σ:St}{H:Hp}{Qv:VK}(h:up X.K Z (zbg ans te) σ H Qv):
  up X.K Z te σ H λv H1=>zf0 X.K vc cv [v,vc] H1 Qv:=by
 obtain⟨r,dl,S,Q,rs,rel,h,ret⟩:=h;unfold zbg at h;refine⟨r,dl,S,_,rs,rel,h,λv H1 r1 d S1 e1 rel1 p1 h1=>?_⟩;cases p1 with
 | @exc c a hx=>
  dsimp only at h1;split at h1
  ·rename_i b eb;obtain⟨y1,y2⟩:=hy c b eb;exact⟨a,c,b,rfl,.inl hx,y1,y2,ret _ _ _ _ _ e1 rel1 (.bl _) h1⟩
  ·exact h1.elim
 | @xw c a dx x hx hd=>
  dsimp only at h1;split at h1
  ·rename_i b eb;obtain⟨y1,y2⟩:=hy c b eb;exact⟨a,c,b,rfl,.inr ⟨dx,hx⟩,y1,y2,ret _ _ _ _ _ e1 rel1 (.bl _) h1⟩
  ·exact h1.elim
 | _=>exact(show False from h1).elim
theorem zbl {e:Expr}{te:TDE}{y:Str}{p p2 pos:Pos}{C:Addr}{ans:Addr→Option Bool}(hy:∀c b,ans c=some b→PySem.W.kitOne X.K (.ref c) (.ref C)=some b∧Nx X.K c)(hg:Gl X "isinstance")(hm:X.mg "isinstance"=none)(hg2:Gl X y)(hm2:X.mg y=some (.ref C))(ha:PD X Z e te)
  (hv:bootBuiltins "isinstance"=some (.builtin "isinstance"):=by exact PyProof.Rows.Boot.«isinstance»)
  (hd2:(y==("__debug__":Str))=false:=by decide)(he2:starEach [e,.Name y p2] X.env=(false,eval e X.env)::starEach [.Name y p2] X.env:=by rfl)
  (he3:starEach [.Name y p2] X.env=(false,eval (.Name y p2) X.env)::starEach [] X.env:=by rfl)(hpl:(backTo pos (starEach [.Name y p2] X.env)).any (·.1)=false:=by rfl):
  PD X Z (.Call (.Name "isinstance" p) [e,.Name y p2] [] pos) (zbg ans te):=
 zay (zd4 (zfZ (vc:=.ref C) (cv:=.ref C) λu r=>r) hg hm hv (zbP ha (zbP (zha (v:=.ref C) hg2 hm2 rfl hd2) zc7 he3) he2) (by decide) (by decide) he2 hpl) λσ H Qv h=>zgj hy h
end
def eqN:Nat→D→D→Option Bool
 | 0=>eqF
 | k+1=>eqT (eqN k)
theorem zgm:∀k,zb0 (eqN k)
 | 0=>zcc
 | k+1=>zgB (zgm k)
theorem zcV:∀k,zbC k (eqN k)
 | 0=>zeu 0
 | k+1=>zgk (zcV k) (zgm k)
def zdo (k:Nat)(S:Sto):D→D→Option Bool
 | .ref n,.ref m=>match lAt S n,lAt S m with
  | some o,some o'=>eqL (eqN k) (zaB o) (zaB o')
  | _,_=>none
 | x,y=>eqN (k+1) x y
def zbQ (k:Nat):W2:=λx y S Q=>match zdo k S x y with
 | some b=>Q (.bl b) S
 | none=>False
section
variable {X:Cx}{Z:Zx}
theorem ziH {k n m:Nat}{a a':Addr}{o o':Ob}{b:Bool}{pins:List (Addr×Obj)}{σ:St}{H:Hp}{s:Shared}{r:List Addr}{S:Sto}(I:Inv X pins σ H s)(rel:Rel X.K Z r S H)(hn:r[n]?=some a)(hm:r[m]?=some a')(eo:lAt S n=some o)(eo':lAt S m=some o')
  (e:eqL (eqN k) (zaB o) (zaB o')=some b)(hu:X.A.units+1+k<cLine):SeqAt.RcAt X.A s (.ref a) (.ref a') b:=by
 obtain⟨eo,eL⟩:=zbz eo;obtain⟨eo',eL'⟩:=zbz eo';obtain⟨z,hz,ob⟩:=rel.at eo;rw[hn] at hz; cases hz
 obtain⟨z,hz,ob'⟩:=rel.at eo';rw[hm] at hz; cases hz
 obtain⟨xs,sq,pr⟩:=ob.list eL;obtain⟨ys,sq',pr'⟩:=ob'.list eL';obtain⟨is,ri,pl,_⟩:=I.list sq;obtain⟨js,rj,pl',_⟩:=I.list sq';obtain⟨g1,g2⟩:=zdB (A:=X.A.in1) (zcV k) I (by show X.A.units+1+k<_; omega) pr pr' ri rj e;by_cases hs:is.toArray.size=js.toArray.size
 ·have q:=SeqAt.RcAt.lists (A:=X.A) pl.isList pl'.isList hs (by omega) g1
  have e2:(List.range is.toArray.size).all (za4 (eqN k) (zaB o) (zaB o'))=b:=by
   rw[← g2,← hs,Nat.min_self]; simp
  rw[e2] at q;exact q
 ·have q:=SeqAt.RcAt.lists_lengths (A:=X.A) pl.isList pl'.isList (by simpa using hs) (by omega)
  have e2:b=false:=by
   rw[← g2,show (is.toArray.size==js.toArray.size)=false by simpa using hs,Bool.and_false]
  rw[e2];exact q
def zbu (f:D→D→Option Bool):List D→D→Option Bool
 | [],_=>some false
 | y::ys,x=>match f y x,zbu f ys x with
  | some b,some c=>some (b||c)
  | _,_=>none
def wIn (k:Nat)(neg:Bool):W2:=λx y S Q=>match y with
 | .ref n=>match lAt S n with
  | some o=>match zbu (eqN k) (zaB o) x with
   | some b=>Q (.bl (if neg then !b else b)) S
   | none=>False
  | none=>False
 | _=>False
theorem zfQ {v v':V}{u:Value}(h:zab v u)(h':zab v' u):v=v':=by
 cases v <;> cases v' <;> simp[L2.zab] at h h' <;> first
  | rfl
  | (subst h; simp at h'; subst h'; rfl)
  | (obtain⟨t,rfl⟩:=h; simp at h'; subst h'; rfl)
  | (obtain⟨t,rfl⟩:=h; simp at h')
  | (subst h; simp at h')
  | skip
theorem zct {r:List Addr}{H:Hp}{d d' x:D}{v:V}{b b':Bool}(p:Rp r H d v)(p':Rp r H d' v)(e:eqF d x=some b)(e':eqF d' x=some b'):b=b':=by
 have z:d=d':=by
  cases p <;> cases p' <;> first
   | rfl
   | (cases x <;> simp[eqF] at e)
   | (cases x <;> simp[eqF] at e')
 subst z;rw[e] at e';exact Option.some.inj e'
theorem zf2 {f:D→D→Option Bool}{r:List Addr}{H:Hp}(hf:∀(d d' x:D) (v:V) (b b':Bool),Rp r H d v→Rp r H d' v→f d x=some b→f d' x=some b'→b=b'):
  ∀ {ds ds' zs:List D} {vs:List V} {b b':Bool},Rps r H ds vs→Rps r H ds' vs→eqL f ds zs=some b→eqL f ds' zs=some b'→b=b'
 | [],ds',zs,vs,b,b',p,p',e,e'=>by
  have z:=p.unnil;subst z;cases ds' with
  | nil=>rw[e] at e'; exact Option.some.inj e'
  | cons y ys=>exact absurd p'.1 (by simp)
 | d::ds,ds',zs,vs,b,b',p,p',e,e'=>by
  obtain⟨v,vs',rfl,p1,p2⟩:=p.uncons;cases ds' with
  | nil=>exact absurd p'.1 (by simp)
  | cons d' ds'=>
   obtain⟨q1,q2⟩:=p'.tail;cases zs with
   | nil=>
    simp only[eqL,Option.some.injEq] at e e';exact e.symm.trans e'
   | cons z zs=>
    unfold eqL at e e';split at e
    ·rename_i b1 c1 a1 a2;split at e'
     ·rename_i b2 c2 a3 a4;have h1:=hf d d' z v b1 b2 p1 q1 a1 a3
      have h2:=zf2 hf p2 q2 a2 a4;subst h1 h2;simp only[Option.some.injEq] at e e';exact e.symm.trans e'
     ·cases e'
    ·cases e
theorem zfg:∀(k:Nat) {r:List Addr} {H:Hp} (d d' x:D) (v:V) (b b':Bool),Rp r H d v→Rp r H d' v→eqN k d x=some b→eqN k d' x=some b'→b=b'
 | 0,r,H,d,d',x,v,b,b',p,p',e,e'=>zct p p' e e'
 | k+1,r,H,d,d',x,v,b,b',p,p',e,e'=>by
  cases p with
  | tup h1 l1 f1=>
   cases p' with
   | tup h2 l2 f2=>
    rw[h1] at h2; cases h2
    cases x with
    | tup zs=>exact zf2 (λd d' x v b b'=>zfg k d d' x v b b') ⟨l1,f1⟩ ⟨l2,f2⟩ e e'
    | _=>simp[eqN,eqT,eqF] at e
   | ref h=>cases x <;> simp[eqN,eqT,eqF] at e'
   | xw h h2'=>cases x <;> simp[eqN,eqT,eqF] at e'
   | exc h=>cases x <;> simp[eqN,eqT,eqF] at e'
  | non=>exact zct (x:=x) .non p' (by cases x <;> exact e) (by cases p' <;> cases x <;> exact e')
  | bl i=>exact zct (x:=x) (.bl i) p' (by cases x <;> exact e) (by cases p' <;> cases x <;> exact e')
  | int i=>exact zct (x:=x) (.int i) p' (by cases x <;> exact e) (by cases p' <;> cases x <;> exact e')
  | str i=>exact zct (x:=x) (.str i) p' (by cases x <;> exact e) (by cases p' <;> cases x <;> exact e')
  | ref h=>cases x <;> simp[eqN,eqT,eqF] at e
  | xw h h2'=>cases x <;> simp[eqN,eqT,eqF] at e
  | exc h=>cases x <;> simp[eqN,eqT,eqF] at e
theorem zfq {f:D→D→Option Bool}{x:D}:∀ {ys:List D} {b:Bool},zbu f ys x=some b→(∀y∈ys,∃c,f y x=some c)∧(b=true↔∃y∈ys,f y x=some true)
 | [],b,e=>by
  simp only[zbu,Option.some.injEq] at e;subst e;simp
 | y::ys,b,e=>by
  unfold zbu at e;split at e
  ·rename_i b1 c1 e1 e2;obtain⟨h1,h2⟩:=zfq e2;simp only[Option.some.injEq] at e;subst e;refine⟨λz hz=>?_,?_⟩
   ·rcases Vah.mp hz with rfl | hz'
    ·exact⟨b1,e1⟩
    ·exact h1 z hz'
   ·rw[Va8,h2];refine⟨λq=>?_,λ⟨z,hz,q⟩=>?_⟩
    ·rcases q with q | ⟨z,hz,q⟩
     ·exact⟨y,Vat,by rw[e1,q]⟩
     ·exact⟨z,Vaq _ hz,q⟩
    ·rcases Vah.mp hz with rfl | hz'
     ·left
      rw[e1] at q;exact Option.some.inj q
     ·exact .inr ⟨z,hz',q⟩
  ·cases e
theorem zi3 {k:Nat}{pins:List (Addr×Obj)}{σ:St}{H:Hp}{s:Shared}{r:List Addr}{A:Around}{ds:List D}{vs:List V}{us:List Value}{dx:D}{x:V}{u:Value}{b:Bool}(I:Inv X pins σ H s)(hu:A.units+k<cLine)
  (p:Rps r H ds vs)(rv:zac vs us)(px:Rp r H dx x)(rx:zab x u)(e:zbu (eqN k) ds dx=some b):∃g:Value→Bool,(∀y,y∈us.toArray→SeqAt.EqAt A s y u (g y))∧us.toArray.any g=b:=by
 obtain⟨h1,h2⟩:=zfq e;have at_:∀y∈us,∃d v,d∈ds∧Rp r H d v∧zab v y:=λy hy=>by
  obtain⟨j,hj,ej⟩:=VaM.mp hy;have hv:j<vs.length:=by rw[rv.length]; exact hj
  have gv:vs[j]?=some vs[j]:=by simp[hv]
  obtain⟨w,gw,rw'⟩:=rv.get gv;obtain⟨d,gd,pd⟩:=p.get' gv;have ew:w=y:=by
   rw[VaW hj,ej] at gw;exact(Option.some.inj gw).symm
  subst ew;exact⟨d,_,Vav gd,pd,rw'⟩
 classical
 refine⟨λy=>decide (∃d v,d∈ds∧Rp r H d v∧zab v y∧eqN k d dx=some true),λy hy=>?_,?_⟩
 ·obtain⟨d,v,hd,pd,rd⟩:=at_ y (by simpa using hy);obtain⟨c,hc⟩:=h1 d hd;have same:decide (∃d v,d∈ds∧Rp r H d v∧zab v y∧eqN k d dx=some true)=c:=by
   cases c with
   | true=>exact decide_eq_true ⟨d,v,hd,pd,rd,hc⟩
   | false=>
    refine decide_eq_false λ⟨d',v',_,pd',rd',hc'⟩=>?_
    have ev:=zfQ rd rd';subst ev;exact absurd (zfg k d d' dx v false true pd pd' hc hc') (by decide)
  show SeqAt.EqAt A s y u (decide _);rw[same];exact zcV k X pins σ H s r A d dx v x y u c I hu pd px rd rx hc
 ·rw[Vaz,h2,List.any_toArray,List.any_eq_true];refine⟨λ⟨y,hy,q⟩=>?_,λ⟨d,hd,q⟩=>?_⟩
  ·obtain⟨d,v,hd,_,_,q'⟩:=of_decide_eq_true q;exact⟨d,hd,q'⟩
  ·obtain⟨j,hj,ej⟩:=VaM.mp hd;have gd:ds[j]?=some d:=by simp[hj,ej]
   obtain⟨v,gv,pv⟩:=p.get gd;obtain⟨w,gw,rw'⟩:=rv.get gv;exact⟨w,Vav gw,decide_eq_true ⟨d,v,hd,pv,rw',q⟩⟩
theorem zg8 (k:Nat)(hu:X.A.units+1+k<cLine):OpR X (compareOp .NotIn) (upO X.K Z (wIn k true)):=by
 intro pins s σ H x y v u Qv I rx ry h;obtain⟨r,S,dx,dy,Q,rel,px,py,q,ret⟩:=h;cases py with
 | @ref n a hn=>
  unfold wIn at q;dsimp only at q;split at q
  ·rename_i o eo;split at q
   ·rename_i b eb;cases ry;obtain⟨eo,eL⟩:=zbz eo;obtain⟨a',ha,ob⟩:=rel.at eo;rw[hn] at ha; cases ha
    obtain⟨ys,sq,pr⟩:=ob.list eL;obtain⟨us,ru,pl,_⟩:=I.list sq;obtain⟨g,g1,g2⟩:=zi3 (A:=X.A.in1) I (by show X.A.units+1+k<_; omega) pr ru px rx eb;refine SeqAt.notIn_listAt g pl.isList g1 ?_;rw[g2];exact⟨.bl (!b),H,I,rfl,ret _ _ _ _ _ Ext.refl rel (.bl (!b)) q⟩
   ·exact q.elim
  ·exact q.elim
 | _=>exact(show False from q).elim
end
section
variable {X:Cx}{Z:Zx}{pos:Pos}
inductive Nms (X:Cx):List Expr→List Nat→Prop
 | nil:Nms X [] []
 | cons {x:Str} {p:Pos} {i:Nat} {es:List Expr} {is:List Nat}:X.N[i]?=some x→Loc X.env.scope x→(X.fn x=true∨X.env.scope.names.lookup x=some .local)→Nms X es is→Nms X (.Name x p::es) (i::is)
def wIxS:W2:=λx y S Q=>match x,y with
 | .str z,.int i=>∃c,(0≤i∧i<2^63∧i<z.length)∧z.cps[i.toNat]?=some c∧Q (.str ⟨#[c]⟩) S
 | _,_=>False
theorem zhv {a b:Expr}{ta tb:TDE}(ha:PD X Z a ta)(hb:PD X Z b tb)(hs:zfJ b):PD X Z (.Subscript a b pos) (dOp wIxS ta tb):=
 zay (zhN ha hb hs) λσ H Qv h=>by
  obtain⟨r,dl,S,Q,rs,rel,h,ret⟩:=h;refine⟨r,dl,S,_,rs,rel,h,λv H1 r1 dx S1 e1 rel1 p1 h1=>⟨r1,dl,S1,_,rs.ext e1,rel1,h1,λv2 H2 r2 dy S2 e2 rel2 p2 h2=>?_⟩⟩;cases p1 with
  | str z=>
   cases p2 with
   | int i=>
    obtain⟨c,⟨b1,b2,b3⟩,hc,q⟩:=h2;exact⟨z,i,c,rfl,rfl,b1,b2,b3,hc,ret _ _ _ _ _ (e1.trans e2) rel2 (.str _) q⟩
   | _=>exact(show False from h2).elim
  | _=>exact(show False from h2).elim
end
open PySem L2
section
variable {X:Cx}{Z:Zx}
end
def zgW:Sd:=λ_ _ _ _=>False
def Df.never {P:Program}{w:World}{K:PySem.W.Frag}{mg:Str→Option Value}{base:Heap}{x:Str}{st:Stmt}{ps:List Str}(k:Nat)(d:Df K mg x st ps):Fk P w K mg base k x ps zgW:=
 ⟨d.f,d.fd,⟨λ_ _ _ _ ⟨_,_,_,_,_,_,_,z,_⟩=>z.elim,λ_ _ _ _ _ _ _ _ _ _ _ _ _ ⟨_,_,_,_,_,_,_,z,_⟩=>z.elim⟩,d.m,d.F.kp,d.b⟩
section
variable {X:Cx}{Z:Zx}{pos:Pos}
end
section
variable {X:Cx}{Z:Zx}{elt iter:Expr}{x:Str}{px pos:Pos}{ifs:List Expr}{sc ar:Scope}{N:List Str}{caps:List Nat}
theorem zgc {ta:TDA}{te:TDE}{dl:Ev}{S S1:Sto}{Q:DK}{j:Int}(g:Nat→D)(hta:∀K:List D→Sto→Prop,K [.int j] S1→ta dl S K)(hj:0≤j∧j≤1000)
  (ht:∀k:Nat,k<j.toNat→∀(S2:Sto) (K:DK),Pre S1 S2→K (g k) S2→te (some (.int k)::zbj caps dl) S2 K)(hq:Q (.ref S1.length) (S1++[.lst ((List.range j.toNat).map g)])):za2 caps ta zcd te dl S Q:=by
 unfold za2;refine hta _ ⟨⟨by omega,by omega⟩,λk S2=>S2=S1++[.lst ((List.range k).map g)]∧k≤j.toNat,⟨by simp,by omega⟩,?_⟩;rintro k S2 ⟨rfl,hk⟩;split
 ·rename_i hk';unfold zcD zcd;simp only[if_true];refine ht k hk' _ _ Pre.refl.push ?_;rw[zhm];refine⟨by simp; omega,?_,by omega⟩;rw[VaO,VaP,List.set_append_right _ _ (Vac _)];simp
 ·have e:k=j.toNat:=by omega
  subst e;exact hq
end
section
variable {X:Cx}{Z:Zx}{pos:Pos}
def zaV:List D→Option (List Str)
 | []=>some []
 | .str x::r=>(zaV r).map (x::·)
 | _=>none
theorem zf6 {r:List Addr}{H:Hp}:∀ {ds:List D} {vs:List V} {us:List Value} {zs:List Str},zaV ds=some zs→Rps r H ds vs→zac vs us→StrsAre us zs
 | [],vs,us,zs,e,p,q=>by
  have z:=p.unnil;subst z;cases q;simp only[zaV,Option.some.injEq] at e;subst e;exact .nil
 | d::ds,vs,us,zs,e,p,q=>by
  obtain⟨v,vs',rfl,p1,p2⟩:=p.uncons;cases p1 with
  | str x=>
   cases q with
   | cons q1 q2=>
    obtain⟨t,rfl⟩:=q1;simp only[zaV,Vay] at e;obtain⟨ms,e1,rfl⟩:=e;exact .cons x t (zf6 e1 p2 q2)
  | _=>simp[zaV] at e
def zao (zs:List Str):Str:=⟨(zs.flatMap λz=>z.cps.toList).toArray⟩
theorem zkd (sep:Str)(h:sep.length=0):∀zs:List Str,Txt.join sep zs=zao zs:=by
 have e:sep.cps=#[]:=by
  unfold Str.length at h;exact Array.eq_empty_of_size_eq_zero h
 have key:∀(zs:List Str) (a:Array Nat),zs.foldl (λacc p=>acc++sep.cps++p.cps) a=a++(zs.flatMap λz=>z.cps.toList).toArray:=by
  intro zs
  induction zs with
  | nil=>intro a; simp
  | cons z zs ih=>
   intro a;rw[List.foldl_cons,ih,e,Va9];exact Array.ext' (by simp)
 intro zs;show Builtin.Str.glued sep zs=zao zs;unfold Builtin.Str.glued zao;cases zs with
 | nil=>rfl
 | cons z zs=>
  rw[List.drop_one,List.tail_cons,List.headD_cons,key,Va9];simp
@[irreducible] def zd6 (to:TDE)(t:TDA):TDE:=λdl S Q=>to dl S λd S1=>match d with
 | .str sep=>t dl S1 λds S2=>match ds with
  | [.ref n]=>match lAt S2 n with
   | some o=>∃zs,zaV (zaB o)=some zs∧sep.length=0∧(∀z∈zs,z.length≤8)∧zs.length≤1000∧Q (.str (zao zs)) S2
   | none=>False
  | _=>False
 | _=>False
theorem ziK:MtR X "str.join" (λx xs H Q=>∃sep p ys zs,x=.str sep∧xs=[.ref p]∧SqL X.K H p ys∧(∀us,zac ys us→StrsAre us zs)∧sep.length=0∧(∀z∈zs,z.length≤8)∧zs.length≤1000∧Q (.str (zao zs)) H):=by
 intro pins s σ H x xs v us Q I rx rv h;obtain⟨sep,p,ys,zs,rfl,rfl,sq,st,h0,hB,hn,q⟩:=h;obtain⟨t,rfl⟩:=rx;obtain⟨u,rfl,ru⟩:=zdm rv;cases ru;obtain⟨its,r,pl,_⟩:=I.list sq;have hc:=(st its r).carried;refine join_madeW (l:=zs) (g:=id) 8 pl.isList (by simpa using hc) (λa ha=>hB a ha) (by omega) (by omega) λt' k=>?_
 rw[List.map_id,zkd sep h0];exact⟨.str (zao zs),H,I.kept (t':=k) λb o e=>e,⟨t',rfl⟩,q⟩
theorem zg0 {o e:Expr}{to:TDE}{t:TDA}{apos cpos:Pos}(ho:PD X Z o to)(ha:PDA X Z [e] t)(hbase:attributeBase o "join" X.env (eval o X.env)=eval o X.env:=by rfl)
  (hfew:((backTo cpos (starEach [e] X.env)).all (λx=>!x.1)&&(backToKw cpos (keywordEach [] X.env)).all (λx=>x.1.isSome)
  &&decide ([e].length+([]:List Keyword).length+(if ([]:List Keyword).isEmpty then 0 else 1)<30))=true:=by rfl)
  (hline:(apos.endLine==cpos.line)=true:=by rfl)(hs:starEach [e] X.env=(false,eval e X.env)::starEach [] X.env:=by rfl)(hplain:(backTo cpos (starEach [] X.env)).any (·.1)=false:=by rfl):
  PD X Z (.Call (.Attribute o "join" apos) [e] [] cpos) (zd6 to t):=
 zay (zgs (T:="str") PySem.F.plainAttrs_str PySem.F.slot_str_join PySem.F.type_str_join ziK ho ha hbase hfew hline hs hplain) λσ H Qv ⟨r,dl,S,Q,rs,rel,h,ret⟩=>by
  unfold zd6 at h;refine⟨r,dl,S,_,rs,rel,h,λv H1 r1 d S1 e1 rel1 p1 q1=>?_⟩;cases p1 with
  | str sep=>
   refine⟨rfl,r1,dl,S1,_,rs.ext e1,rel1,q1,λvs H2 r2 ds S2 e2 rel2 p2 q2=>?_⟩;split at q2
   ·rename_i n;obtain⟨v2,vs',rfl,p3,p4⟩:=p2.uncons;have z:=p4.unnil;subst z;split at q2
    ·rename_i o eo;obtain⟨zs,z1,z2,z3,z4,q⟩:=q2;cases p3 with
     | @ref n a hn=>
      obtain⟨eo,eL⟩:=zbz eo;obtain⟨a',ha',ob⟩:=rel2.at eo;rw[hn] at ha'; cases ha'
      obtain⟨ys,sq,pr⟩:=ob.list eL;exact⟨sep,a,ys,zs,rfl,rfl,sq,λus ru=>zf6 z1 pr ru,z2,z3,z4,ret _ H2 r2 _ S2 (e1.trans e2) rel2 (.str _) q⟩
    ·exact q2.elim
   ·exact q2.elim
  | _=>exact(show False from q1).elim
end
section
variable {X:Cx}{Z:Zx}
end
section
variable {X:Cx}{Z:Zx}
theorem zgZ {k:Nat}(hr:zan k X.A):OpR X (compareOp .NotIn) (upO X.K Z (zb1 (wIn 0 true))):=by rw[zdR]; exact zg8 0 (by have:=hr.un; omega)
end
theorem zdS {α:Type}(f:α→Str):∀l:List α,zaV (l.map λc=>D.str (f c))=some (l.map f)
 | []=>rfl
 | a::r=>by
  rw[Vaf,Vaf,zaV,zdS f r];rfl
theorem zik {o:Ob}{xs:List Str}(h:zaV (zaB o)=some xs):zbE o=some o:=by
 cases o <;> first | rfl | cases h
theorem zhj {to:TDE}{t:TDA}{dl:Ev}{S S1:Sto}{Q:DK}{n:Nat}{o:Ob}{zs:List Str}{sep:Str}(hto:∀K:DK,K (.str sep) S→to dl S K)(ht:∀K:List D→Sto→Prop,K [.ref n] S1→t dl S K)(h0:sep.length=0)(ho:S1[n]?=some o)(hz:zaV (zaB o)=some zs)
  (h8:∀z∈zs,z.length≤8)(hl:zs.length≤1000)(hq:Q (.str (zao zs)) S1):zd6 to t dl S Q:=by
 unfold zd6;refine hto _ (ht _ ?_);simp only[zbT ho (zik hz)];exact⟨zs,hz,h0,h8,hl,hq⟩
def putD (f:Str)(v:D):List (Str×D)→List (Str×D)
 | []=>[(f,v)]
 | p::r=>if p.1=f then (f,v)::r else p::putD f v r
theorem FR.lookup {r:List Addr}{H:Hp}{f:Str}:∀ {fs:List (Str×D)} {fs':List (Str×V)},FR r H fs fs'→(∀d,fs.lookup f=some d→∃v,fs'.lookup f=some v∧Rp r H d v)∧(fs.lookup f=none→fs'.lookup f=none)
 | [],fs',h=>by
  have e:fs'=[]:=by
   have:=h.1;simpa using this.symm
  subst e;exact⟨λd z=>by simp at z,λ_=>rfl⟩
 | p::fs,[],h=>by
  have:=h.1;simp at this
 | p::fs,q::fs',h=>by
  obtain⟨h1,h2⟩:=h;simp only[Vaf,List.cons.injEq] at h1;obtain⟨p1,p2⟩:=h2.tail;obtain⟨i1,i2⟩:=FR.lookup (f:=f) (fs:=fs) (fs':=fs') ⟨h1.2,p2⟩;obtain⟨pk,pv⟩:=p;obtain⟨qk,qv⟩:=q;have ek:pk=qk:=h1.1;subst ek;by_cases z:f=pk
  ·subst z;simp only[List.lookup_cons_self];exact⟨λd hd=>⟨qv,rfl,by cases hd; exact p1⟩,λhd=>by cases hd⟩
  ·have zb:(f==pk)=false:=by simpa using z
   simp only[Vag,zb];exact⟨i1,i2⟩
theorem FR.put {r:List Addr}{H:Hp}{f:Str}{d:D}{v:V}(q:Rp r H d v):∀ {fs:List (Str×D)} {fs':List (Str×V)},FR r H fs fs'→FR r H (putD f d fs) (putF f v fs')
 | [],fs',h=>by
  have e:fs'=[]:=by
   have:=h.1;simpa using this.symm
  subst e;exact⟨rfl,Rps.cons q Rps.nil⟩
 | p::fs,[],h=>by
  have:=h.1;simp at this
 | p::fs,p'::fs',h=>by
  obtain⟨h1,h2⟩:=h;simp only[Vaf,List.cons.injEq] at h1;obtain⟨p1,p2⟩:=h2.tail;have ih:=FR.put (f:=f) q (fs:=fs) (fs':=fs') ⟨h1.2,p2⟩;obtain⟨pk,pv⟩:=p;obtain⟨qk,qv⟩:=p';have ek:pk=qk:=h1.1;subst ek;unfold putD putF;by_cases z:pk=f
  ·rw[if_pos z,if_pos z];exact⟨by simp[h1.2,z],Rps.cons q p2⟩
  ·rw[if_neg z,if_neg z];exact⟨by simp[ih.1],Rps.cons p1 ih.2⟩
section
variable {X:Cx}{Z:Zx}{pos:Pos}
end
section
variable {κ:Type} [DecidableEq κ]
def zbL (kvs:List (κ×D))(k:κ):Option D:=(kvs.find? λkv=>decide (kv.1=k)).map (·.2)
def zgx (kvs:List (κ×D))(k:κ)(v:D):List (κ×D):=
 if (kvs.any λkv=>decide (kv.1=k))=true then kvs.map (λkv=>if kv.1=k then (kv.1,v) else kv) else kvs++[(k,v)]
theorem FR.split {r:List Addr}{H:Hp}{p:κ×D}{fs:List (κ×D)}{gs:List (κ×V)}(h:FR r H (p::fs) gs):∃q gs',gs=q::gs'∧p.1=q.1∧Rp r H p.2 q.2∧FR r H fs gs':=by
 cases gs with
 | nil=>
  have:=h.1;simp at this
 | cons q gs'=>
  obtain⟨h1,h2⟩:=h;simp only[Vaf,List.cons.injEq] at h1;obtain⟨p1,p2⟩:=h2.tail;exact⟨q,gs',rfl,h1.1,p1,h1.2,p2⟩
theorem FR.unnil {r:List Addr}{H:Hp}{gs:List (κ×V)}(h:FR r H ([]:List (κ×D)) gs):gs=[]:=by
 have:=h.1;simpa using this.symm
theorem FR.cons {r:List Addr}{H:Hp}{k:κ}{d:D}{v:V}{fs:List (κ×D)}{gs:List (κ×V)}(p:Rp r H d v)(h:FR r H fs gs):FR r H ((k,d)::fs) ((k,v)::gs):=⟨by simp[h.1],Rps.cons p h.2⟩
theorem FR.val {r:List Addr}{H:Hp}{k:κ}:∀ {fs:List (κ×D)} {gs:List (κ×V)},FR r H fs gs→(∀d,zbL fs k=some d→∃v,zaN gs k=some v∧Rp r H d v)∧(zbL fs k=none→zaN gs k=none)
 | [],gs,h=>by
  have z:=h.unnil;subst z;exact⟨(λd e=>by cases e),λ_=>rfl⟩
 | p::fs,gs,h=>by
  obtain⟨q,gs',rfl,e,pr,t⟩:=h.split;obtain⟨i1,i2⟩:=FR.val (k:=k) t;by_cases z:p.1=k
  ·have z':q.1=k:=e.symm.trans z;rw[zd3 z'];have zd:zbL (p::fs) k=some p.2:=by simp[zbL,Vas,z]
   rw[zd];exact⟨λd hd=>⟨q.2,rfl,by cases hd; exact pr⟩,λhd=>by cases hd⟩
  ·have z':¬ q.1=k:=λy=>z (e.trans y)
   rw[zdW z'];have zd:zbL (p::fs) k=zbL fs k:=by simp[zbL,Vas,z]
   rw[zd];exact⟨i1,i2⟩
theorem FR.putK {r:List Addr}{H:Hp}{k:κ}{d:D}{v:V}{fs:List (κ×D)}{gs:List (κ×V)}(p:Rp r H d v)(h:FR r H fs gs):FR r H (zgx fs k d) (putK gs k v):=by
 have any:∀ {fs:List (κ×D)} {gs:List (κ×V)},FR r H fs gs→(fs.any λkv=>decide (kv.1=k))=(gs.any λkv=>decide (kv.1=k)):=by
  intro fs
  induction fs with
  | nil=>intro gs h; have z:=h.unnil; subst z; rfl
  | cons q fs ih=>
   intro gs h;obtain⟨q',gs',rfl,e,_,t⟩:=h.split;rw[VaC,VaC,ih t,e]
 have mp:∀ {fs:List (κ×D)} {gs:List (κ×V)},FR r H fs gs→FR r H (fs.map λkv=>if kv.1=k then (kv.1,d) else kv) (gs.map λkv=>if kv.1=k then (kv.1,v) else kv):=by
  intro fs
  induction fs with
  | nil=>intro gs h; have z:=h.unnil; subst z; exact FR.nil
  | cons q fs ih=>
   intro gs h;obtain⟨q',gs',rfl,e,pr,t⟩:=h.split;rw[Vaf,Vaf];obtain⟨qk,qd⟩:=q;obtain⟨qk',qv⟩:=q';have e':qk=qk':=e;subst e';by_cases z:qk=k
   ·rw[if_pos z,if_pos z]; exact FR.cons p (ih t)
   ·rw[if_neg z,if_neg z]; exact FR.cons pr (ih t)
 have ap:∀ {fs:List (κ×D)} {gs:List (κ×V)},FR r H fs gs→FR r H (fs++[(k,d)]) (gs++[(k,v)]):=by
  intro fs
  induction fs with
  | nil=>intro gs h; have z:=h.unnil; subst z; exact FR.cons p FR.nil
  | cons q fs ih=>
   intro gs h;obtain⟨q',gs',rfl,e,pr,t⟩:=h.split;obtain⟨qk,qd⟩:=q;obtain⟨qk',qv⟩:=q';have e':qk=qk':=e;subst e';exact FR.cons pr (ih t)
 unfold zgx L2.putK;rw[any h];split
 ·exact mp h
 ·exact ap h
end
section
variable {X:Cx}{Z:Zx}{pos:Pos}
end
section
variable {X:Cx}{Z:Zx}{pos:Pos}
end
section
variable {X:Cx}{Z:Zx}{pos:Pos}
def cutD (xs:List D)(lo hi:Option Int):List D:=(xs.drop (HT.sIx xs.length 0 lo)).take (HT.sIx xs.length xs.length hi-HT.sIx xs.length 0 lo)
theorem Rps.drop {r:List Addr}{H:Hp}{ds:List D}{vs:List V}(h:Rps r H ds vs)(k:Nat):Rps r H (ds.drop k) (vs.drop k):=
 ⟨by simp[h.1],λi d v h1 h2=>h.2 (k+i) d v (by simpa using h1) (by simpa using h2)⟩
theorem Rps.take {r:List Addr}{H:Hp}{ds:List D}{vs:List V}(h:Rps r H ds vs)(k:Nat):Rps r H (ds.take k) (vs.take k):=by
 refine⟨by simp[h.1],λi d v h1 h2=>?_⟩;rw[List.getElem?_take] at h1 h2;split at h1
 ·rw[if_pos (by assumption)] at h2;exact h.2 i d v h1 h2
 ·cases h1
theorem Rps.cut {r:List Addr}{H:Hp}{ds:List D}{vs:List V}(h:Rps r H ds vs)(lo hi:Option Int):Rps r H (cutD ds lo hi) (cutV vs lo hi):=by
 unfold cutD cutV;rw[h.1];exact(h.drop _).take _
end
section
variable {X:Cx}{Z:Zx}{pos:Pos}
theorem Rps.put {r:List Addr}{H:Hp}{ds:List D}{vs:List V}{d:D}{v:V}(h:Rps r H ds vs)(p:Rp r H d v)(j:Nat):Rps r H (ds.set j d) (vs.set j v):=by
 refine⟨by simp[h.1],λi x y h1 h2=>?_⟩;by_cases z:j=i
 ·subst z;have hl:j<ds.length:=by
   have:=(Vad.mp h1).1;simpa using this
  rw[Vai hl] at h1;rw[Vai (by rw[← h.1]; exact hl)] at h2;cases h1;cases h2;exact p
 ·rw[Van z] at h1 h2;exact h.2 i x y h1 h2
def zb6 (f:D→D→Option Bool):List D→D→Option (Option Nat)
 | [],_=>some none
 | y::ys,x=>match f y x,zb6 f ys x with
  | some true,some _=>some (some 0)
  | some false,some o=>some (o.map (·+1))
  | _,_=>none
theorem zeE {f:D→D→Option Bool}{x:D}:∀ {ys:List D} {o:Option Nat},zb6 f ys x=some o→(∀y∈ys,∃c,f y x=some c)∧∀j,o=some j→(∃y,ys[j]?=some y∧f y x=some true)∧∀m y,m<j→ys[m]?=some y→f y x=some false
 | [],o,e=>by
  have h:=Option.some.inj e;subst h;exact⟨(λy hy=>by cases hy),λj z=>by cases z⟩
 | y::ys,o,e=>by
  unfold zb6 at e;split at e
  ·rename_i o1 e1 e2;have h:=Option.some.inj e;subst h;obtain⟨h1,_⟩:=zeE e2;refine⟨λz hz=>?_,λj hj=>?_⟩
   ·rcases Vah.mp hz with rfl | hz
    ·exact⟨true,e1⟩
    ·exact h1 z hz
   ·cases hj;exact⟨⟨y,rfl,e1⟩,λm z hm=>by omega⟩
  ·rename_i o1 e1 e2;have h:=Option.some.inj e;subst h;obtain⟨h1,h2⟩:=zeE e2;refine⟨λz hz=>?_,λj hj=>?_⟩
   ·rcases Vah.mp hz with rfl | hz
    ·exact⟨false,e1⟩
    ·exact h1 z hz
   ·obtain⟨k,rfl,rfl⟩:=Vay.mp hj;obtain⟨⟨z,hz1,hz2⟩,h3⟩:=h2 k rfl;refine⟨⟨z,by simpa using hz1,hz2⟩,λm w hm hw=>?_⟩;cases m with
    | zero=>
     have:w=y:=by simpa using hw.symm
     rw[this]; exact e1
    | succ m=>exact h3 m w (by omega) (by simpa using hw)
  ·cases e
theorem zix {k:Nat}{pins:List (Addr×Obj)}{σ:St}{H:Hp}{s:Shared}{r:List Addr}{A:Around}{ds:List D}{vs:List V}{us:List Value}{dx:D}{x:V}{u:Value}{j:Nat}(I:Inv X pins σ H s)(hu:A.units+k<cLine)
  (p:Rps r H ds vs)(rv:zac vs us)(px:Rp r H dx x)(rx:zab x u)(e:zb6 (eqN k) ds dx=some (some j)):
  ∃g:Value→Bool,(∀y,y∈us.toArray→SeqAt.EqAt A s y u (g y))∧∃hj:j<us.toArray.size,g us.toArray[j]=true∧∀m (hm:m<us.toArray.size),m<j→g us.toArray[m]=false:=by
 obtain⟨h1,h2⟩:=zeE e;obtain⟨⟨yj,hyj,htj⟩,hno⟩:=h2 j rfl
 classical
 have at_:∀(m:Nat) (hm:m<us.length),∃d v,ds[m]?=some d∧Rp r H d v∧zab v us[m]:=λm hm=>by
  have hv:m<vs.length:=by rw[rv.length]; exact hm
  have gv:vs[m]?=some vs[m]:=by simp[hv]
  obtain⟨w,gw,rw'⟩:=rv.get gv;obtain⟨d,gd,pd⟩:=p.get' gv;have ew:w=us[m]:=by
   rw[VaW hm] at gw;exact(Option.some.inj gw).symm
  subst ew;exact⟨d,_,gd,pd,rw'⟩
 have val:∀(m:Nat) (hm:m<us.length) (d:D) (c:Bool),ds[m]?=some d→eqN k d dx=some c→decide (∃d v,d∈ds∧Rp r H d v∧zab v us[m]∧eqN k d dx=some true)=c:=λm hm d c hd hc=>by
  obtain⟨d',v',gd,pd,rd⟩:=at_ m hm;rw[hd] at gd; cases gd
  cases c with
  | true=>exact decide_eq_true ⟨d,v',Vav hd,pd,rd,hc⟩
  | false=>
   refine decide_eq_false λ⟨d2,v2,_,pd2,rd2,hc2⟩=>?_
   have ev:=zfQ rd rd2;subst ev;exact absurd (zfg k d d2 dx v' false true pd pd2 hc hc2) (by decide)
 refine⟨λy=>decide (∃d v,d∈ds∧Rp r H d v∧zab v y∧eqN k d dx=some true),λy hy=>?_,?_⟩
 ·have hy':y∈us:=by simpa using hy
  obtain⟨m,hm,rfl⟩:=VaM.mp hy';obtain⟨d,v,gd,pd,rd⟩:=at_ m hm;obtain⟨c,hc⟩:=h1 d (Vav gd);show SeqAt.EqAt A s us[m] u (decide _);rw[val m hm d c gd hc];exact zcV k X pins σ H s r A d dx v x _ u c I hu pd px rd rx hc
 ·have hjl:j<us.length:=by
   have:=(Vad.mp hyj).1;rw[p.1,rv.length] at this;exact this
  refine⟨by simpa using hjl,?_,λm hm hmj=>?_⟩
  ·have z:=val j hjl yj true hyj htj;simpa using z
  ·have hm':m<us.length:=by simpa using hm
   obtain⟨d,v,gd,pd,rd⟩:=at_ m hm';have z:=val m hm' d false gd (hno m d hmj gd);simpa using z
def zd2 (k:Nat)(d y:D)(S:Sto)(Q:DK):Prop:=match d with
 | .ref n=>match lAt S n with
  | some o=>match zb6 (eqN k) (zaB o) y with
   | some (some j)=>Q (.int (j:Int)) S
   | _=>False
  | none=>False
 | _=>False
@[irreducible] def zdw (k:Nat)(to:TDE)(t:TDA):TDE:=λdl S Q=>to dl S λd S1=>(match d with
 | .ref n=>(lAt S1 n).isSome=true∧t dl S1 λds S2=>match ds with
  | [y]=>zd2 k d y S2 Q
  | _=>False
 | _=>False)
theorem zhs {k j:Nat}(hr:zan j X.A)(hk:k≤3):MtR X "list.index" (λx xs H Qv=>∃(r:List Addr) (S:Sto) (d y:D) (v:V) (Q:DK),Rel X.K Z r S H∧Rp r H d x∧xs=[v]∧Rp r H y v∧zd2 k d y S Q∧Ret X.K Z r H Q Qv):=by
 intro pins s σ H x xs v us Qv I rx rv h;obtain⟨r,S,d,y,v1,Q,rel,pd,rfl,py,q,ret⟩:=h;obtain⟨u,rfl,ru⟩:=zdm rv;unfold zd2 at q;split at q
 ·rename_i n;split at q
  ·rename_i o eo;obtain⟨eo,eL⟩:=zbz eo;split at q
   ·rename_i i ei;cases pd with
    | @ref n a hn=>
     cases rx;obtain⟨a',ha,ob⟩:=rel.at eo;rw[hn] at ha; cases ha
     obtain⟨ys,sq,pr⟩:=ob.list eL;obtain⟨its,ri,pl,hz⟩:=I.list sq;have hun:=hr.un;obtain⟨g,g1,hj,g2,g3⟩:=zix (A:=X.A.in1) I (by show X.A.units+1+k<_; omega) pr ri py ru ei;obtain⟨ob2,m,e,c,hd,hdat⟩:=pl;obtain⟨oc,od,odat,osl⟩:=ob2;have c':oc=.type "list":=c
     have hdat':odat=.seq its.toArray m:=hdat;subst c' hdat';refine call_meets PySem.F.slot_list_index ⟨_,e,rfl⟩ PySem.F.entry_list_index (PySem.F.args_list_index_2 _ _) (PySem.SeqAt.list_indexAt a its.toArray m od osl u g i hj (by
      have:its.toArray.size≤sizeLine:=by rw[Vaj,← ri.length]; exact hz
      have h2:=zdy;omega) g2 λm hm h2=>g3 m hm h2) ⟨e,g1,?_⟩
     exact⟨.int (i:Int),H,I.tok _,⟨_,rfl⟩,ret _ H r (.int _) S Ext.refl rel (.int _) q⟩
   ·exact q.elim
  ·exact q.elim
 ·exact q.elim
theorem zhR {k j:Nat}{o e:Expr}{to:TDE}{t:TDA}{apos cpos:Pos}(hr:zan j X.A)(hk:k≤3)(ho:PD X Z o to)(ha:PDA X Z [e] t)(hbase:attributeBase o "index" X.env (eval o X.env)=eval o X.env:=by rfl)
  (hfew:((backTo cpos (starEach [e] X.env)).all (λx=>!x.1)&&(backToKw cpos (keywordEach [] X.env)).all (λx=>x.1.isSome)
  &&decide ([e].length+([]:List Keyword).length+(if ([]:List Keyword).isEmpty then 0 else 1)<30))=true:=by rfl)
  (hline:(apos.endLine==cpos.line)=true:=by rfl)(hs:starEach [e] X.env=(false,eval e X.env)::starEach [] X.env:=by rfl)(hplain:(backTo cpos (starEach [] X.env)).any (·.1)=false:=by rfl):
  PD X Z (.Call (.Attribute o "index" apos) [e] [] cpos) (zdw k to t):=
 zay (zgs (T:="list") PySem.F.plainAttrs_list PySem.F.slot_list_index PySem.F.type_list_index (zhs (Z:=Z) hr hk) ho ha hbase hfew hline hs hplain) λσ H Qv ⟨r,dl,S,Q,rs,rel,h,ret⟩=>by
  unfold zdw at h;refine⟨r,dl,S,_,rs,rel,h,λv H1 r1 d S1 e1 rel1 p1 q1=>?_⟩;cases p1 with
  | @ref n a hn=>
   obtain⟨hsome,q1⟩:=q1;obtain⟨o1,eo⟩:=Va1.mp hsome;obtain⟨eo,eL⟩:=zbz eo;obtain⟨a',ha',ob⟩:=rel1.at eo;rw[hn] at ha'; cases ha'
   obtain⟨xs,sq,_⟩:=ob.list eL;refine⟨.inl ⟨rfl,xs,sq⟩,r1,dl,S1,_,rs.ext e1,rel1,q1,λvs H2 r2 ds S2 e2 rel2 p2 q2=>?_⟩;split at q2
   ·rename_i y;obtain⟨v2,vs',rfl,p3,p4⟩:=p2.uncons;have z:=p4.unnil;subst z;exact⟨r2,S2,.ref n,y,v2,Q,rel2,.ref (e2.adr _ _ hn),rfl,p3,q2,ret.ext (e1.trans e2)⟩
   ·exact q2.elim
  | _=>exact(show False from q1).elim
end
section
variable {X:Cx}{pins:List (Addr×Obj)}{σ:St}{H:Hp}{s:Shared}{h':Heap}
end
section
variable {X:Cx}
end
section
variable {X:Cx}
end
section
variable {X:Cx}{Z:Zx}{pos:Pos}
end
section
variable {X:Cx}{Z:Zx}{pos:Pos}
end
structure Dm (K:PySem.W.Frag)(C:Addr)(m qual:Str)(st:Stmt)(ps:List Str) where
 f:Addr
 fd:FuncData
 F:Fun K m qual st f fd
 m:Meth K C m f
 b:zaD K fd ps []
structure Fm (P:Program)(w:World)(K:PySem.W.Frag)(mg:Str→Option Value)(base:Heap)(k:Nat)(C:Addr)(x:Str)(ps:List Str)(sd:Sd) where
 f:Addr
 fd:FuncData
 ok:zas P w K mg base (CXE P w) k f fd ps (upF K sd)
 m:Meth K C x f
 b:zaD K fd ps []
def Dm.mk' {P:Program}{w:World}{K:PySem.W.Frag}{mg:Str→Option Value}{base:Heap}{k:Nat}{C:Addr}{x qual:Str}{st:Stmt}{ps:List Str}{sd:Sd}(d:Dm K C x qual st ps)(h:zas P w K mg base (CXE P w) k d.f d.fd ps (upF K sd)):Fm P w K mg base k C x ps sd:=
 ⟨d.f,d.fd,h,d.m,d.b⟩
section
variable {X:Cx}{Z:Zx}
end
section
variable {X:Cx}{Z:Zx}{pos:Pos}
structure Kx (K:PySem.W.Frag)(C:Addr):Prop where
 cl:Cls K C
 ha:PySem.W.findIn K (.ref C) "__class__"=some (some (.builtin "object.__class__"))
 hn:PySem.W.specialIn K (.builtin "object.__class__") "__get__"=some (some (.builtin "getset_descriptor.__get__"))
 ht:PySem.W.takesIn K (.builtin "object.__class__")=some true
 hm:PySem.W.mroIn K C (.type "object")=some true
def KT (K:PySem.W.Frag)(cv:Value)(ans:List (Addr×Bool)):Prop:=∀C b,(C,b)∈ans→PySem.W.kitOne K (.ref C) cv=some b∧Kx K C
end
section
variable {X:Cx}{Z:Zx}
end
section
variable {n:Nat}{I:Addr}{fp wr:List Addr}{P:Nat→Value→Prop}{St:Nat→Shared→Prop}{prog:Program}{w:World}{A:Around}{s:Shared}{E:Value→Shared→Prop}{G:Array GenState→Array GenState→Prop}
end
section
variable {X:Cx}{Z:Zx}
end
structure CompScG (sc around:Scope)(own caps:List Str):Prop where
 kind:sc.kind=.function
 nocell:∀y∈sc.names,y.2≠.cell
 own:∀y∈sc.names,y.2=.local→sc.names.lookup y.1=some .local
 cap:∀y∈caps,sc.names.lookup y=some .free
 out:∀y∈sc.names,y.2=.free→around.names.lookup y.1=some .cell
section
variable {X:Cx}{pins:List (Addr×Obj)}{σ:St}{H:Hp}{s:Shared}
end
section
variable {X:Cx}{elt iter:Expr}{elts:List Expr}{kk:Nat}{tp:Pos}{pos:Pos}{sc:Scope}{own N:List Str}{caps:List Nat}{wi:TI}{gt:TG}{te:TE}
end
section
variable {X:Cx}{Z:Zx}{elt:Expr}{pos:Pos}{sc ar:Scope}{N:List Str}{caps:List Nat}
end
section
variable {X:Cx}{Z:Zx}{pos:Pos}
end
section
variable {X:Cx}{Z:Zx}
end
section
variable {X:Cx}{Z:Zx}{pos:Pos}
theorem zdh:∀ {us:List Value} {ms:List Int},IntsAre us ms→zac (ms.map V.int) us
 | _,_,.nil=>.nil
 | _,_,.cons n t h=>.cons ⟨t,rfl⟩ (zdh h)
end
section
variable {X:Cx}{Z:Zx}{elt:Expr}{pos:Pos}{sc ar:Scope}{N:List Str}{caps:List Nat}
end
section
variable {X:Cx}{Z:Zx}{pos:Pos}
end
section
variable {n:Nat}{I:Addr}{fp wr:List Addr}{P:Nat→Value→Prop}{St:Nat→Shared→Prop}{prog:Program}{w:World}{A:Around}{s:Shared}{E:Value→Shared→Prop}{G:Array GenState→Array GenState→Prop}
end
section
variable {X:Cx}{Z:Zx}{pos:Pos}
theorem zfS {H:Hp}{a:Addr}{o u:HO}:upd (upd H a o) a u=upd H a u:=by
 funext b;by_cases e:b=a
 ·subst e;rw[zaI,zaI]
 ·rw[zah e,zah e,zah e]
end
section
variable {X:Cx}{Z:Zx}{pos:Pos}
theorem Rps.ins {r:List Addr}{H:Hp}{y:D}{w:V}(hy:Rp r H y w):∀ {ds:List D} {xs:List V} (k:Nat),Rps r H ds xs→Rps r H (ds.take k++y::ds.drop k) (xs.take k++w::xs.drop k)
 | [],xs,k,h=>by
  have z:=h.unnil;subst z;simpa using Rps.cons hy h
 | d::ds,xs,0,h=>Rps.cons hy h
 | d::ds,xs,k+1,h=>by
  obtain⟨v,vs,rfl,p1,p2⟩:=h.uncons;exact Rps.cons p1 (Rps.ins hy k p2)
end
section
variable {X:Cx}{Z:Zx}{elt iter:Expr}{elts:List Expr}{kk:Nat}{tp pos:Pos}{sc ar:Scope}{own N:List Str}{caps:List Nat}{wi:TI}{gt:TG}
end
section
variable {X:Cx}{Z:Zx}
end
section
variable {X:Cx}{Z:Zx}{pos:Pos}
end
end L3
namespace L2
open PySem PySem.Spec PyProof.Rows
section
variable {X:Cx}{tg:Expr}
end
end L2
namespace L3
open PySem PySem.Spec PyProof.Rows L2
section
variable {X:Cx}{Z:Zx}{pos:Pos}
end
section
variable {X:Cx}
theorem zfD {pins pins':List (Addr×Obj)}{σ:St}{H H':Hp}{s s':Shared}{B h5:Heap}{ea c:Addr}{a0:Value}{E:Value→Shared→Prop}(hex:X.ex=[])(hs:X.stack=X.env::X.outer)(hf:X.env.frame=some X.env.locals)
  (hfn:∀x,X.fn x=true)(ok:X.Ok)(I:Inv (Cx.held X pins E) pins' σ H s)(os:s'.os=s.os)(bare:AllBare s'.gens)(un:Un (frs X.stack) [] H H' s.heap s'.heap)(hok:HOk X.prog X.w H' s'.heap)
  (flc:za7 B (X.env::X.outer) ea (.ref c) a0 s'.heap)(flc5:za7 B (X.env::X.outer) ea (.ref c) a0 h5)(up:s'.heap.UpToSlots h5)(bk:Bk (frs X.stack) H H' B s.heap ea):
  Inv X pins σ (upd H' ea (isX ea c)) { s' with heap:=h5 }:=by
 have nx:∀b:Addr,b ∉ X.ex:=λb z=>by rw[hex] at z; exact absurd z (by simp)
 have fl:=flc.1
 have fl5:=flc5.1;obtain⟨oe,hoe,hce⟩:=fl5.there;have h2e:two oe=some .none:=by
  obtain⟨o2,q1,q2⟩:=flc5.2;rw[hoe] at q1;cases q1;exact q2
 have fl5':Heap.FlyingW B X.outer ea (.ref c) a0 h5:=by
  obtain⟨k1,k2,⟨_,_,k3⟩,k4⟩:=fl5;exact⟨k1,k2,k3,k4⟩
 have core:=zfW (X:=Cx.held X pins E) I hex hs hf un fl fl5' up bk;obtain⟨un5,bk5⟩:=core;have hok5:HOk X.prog X.w H' h5:=zeq hok bk.trk fl.1 fl5.1
 have hLm:X.env.locals∈frs X.stack:=(zbt I hs hf).mpr (.inl rfl)
 have hneL:X.env.locals≠ea:=λz=>by
  obtain⟨_,o3,e3,d3⟩:=fl5.2.2.1.mem (show X.env.locals∈(X.env::X.outer).filterMap (·.frame) by rw[← hs]; exact hLm);obtain⟨oe2,ws,e4,_,d4,_⟩:=fl5.first;rw[z,e4] at e3;cases e3;exact d3 _ d4
 have nf:∀b∈X.fs,b≠ea:=λb hb z=>by
  obtain⟨_,o3,e3,d3⟩:=fl5.2.2.1.mem (show b∈(X.env::X.outer).filterMap (·.frame) by rw[← hs]; exact(zbt I hs hf).mpr (.inr hb));obtain⟨oe2,ws,e4,_,d4,_⟩:=fl5.first;rw[z,e4] at e3;cases e3;exact d3 _ d4
 have oldne:∀ {b:Addr} {o:Obj},X.s₀.heap.get? b=some o→b≠ea:=λ{b o} e z=>by
  by_cases hb:b∈X.fs
  ·exact nf b hb z
  ·obtain⟨o',e'⟩:=bk5.all b o e hb;rw[z,fl5.2.1] at e'; cases e'
 have cellK:∀x a v,X.env.cells.lookup x=some a→s.heap.IsCell a v→h5.IsCell a v∧a≠ea∧H' a=none:=λx a v e ⟨o,ho,hd⟩=>by
  have hst:a ∉ frs X.stack:=λz=>by
   rcases (zbt I hs hf).mp z with z | z
   ·exact I.cne x a e z
   ·obtain⟨_,o3,e3,_⟩:=ok.funs.mem z;exact absurd (Vaa (Heap.lt_size e3) (ok.cab x a (hfn x) e)) (Val _)
  obtain⟨sl,e2⟩:=up a o (un.keep a o ho (I.freeC x a e) hst (by simp)) λvs q=>by rw[hd] at q; cases q
  have hB:=bk.old a o ho (I.freeC x a e) hst;exact⟨⟨_,e2,hd⟩,(λz=>by rw[z,fl5.2.1] at hB; cases hB),un.free a o ho (I.freeC x a e) (by simp)⟩
 refine⟨ok,os.trans I.os,bare,?_,?_,λx a z=>let ⟨v,q⟩:=I.cell x a z; ⟨v,(cellK x a v z q).1⟩,?_,λx a z=>?_,?_,?_,I.len⟩
 ·refine⟨λb o e n hb hx=>un5.keep b o e n hb (by simp),λb o e n hb hx=>un5.slot b o e n hb (by simp),λb o e n hx=>by rw[zah (oldne e)]; exact un5.free b o e n (by simp),λb o e hx=>un5.there b o e (by simp),?_,?_,?_⟩
  ·intro b xs e;have z:=un5.tups b xs e;rw[zah (zaG z bk.new)]; exact z
  ·intro b ob u e;have z:=un5.frzs b ob u e;rw[zah (zaG z bk.new)]; exact z
  ·intro b ps e;obtain⟨more,z⟩:=un5.tbls b ps e;exact⟨more,by rw[zah (zaG z bk.new)]; exact z⟩
 ·obtain⟨m,hn,look⟩:=I.loc;obtain⟨o,es,ep,ho,hd,rr⟩:=hn;obtain⟨sl,e2⟩:=un.slot _ o ho I.free hLm (by simp);have hn2:s'.heap.Ns X.env.locals m:=⟨_,es,ep,e2,hd,rr⟩;refine⟨m,up.ns hn2,λi x v hx z vis=>?_⟩;obtain⟨u,ru,lk⟩:=look i x v hx z vis;rcases lk with lk | ⟨kk,c,hc,qq⟩
  ·exact⟨u,ru,.inl lk⟩
  ·exact⟨u,ru,.inr ⟨kk,c,hc,(cellK x c _ hc qq).1⟩⟩
 ·rw[zah hneL];obtain⟨m,⟨o,_,_,ho,_⟩,_⟩:=I.loc;exact un.free _ o ho I.free (by simp)
 ·obtain⟨v,q⟩:=I.cell x a z;rw[zah (cellK x a v z q).2.1];exact(cellK x a v z q).2.2
 ·intro p hp;obtain⟨p1,p2,p3,p4,p5⟩:=I.pin p (VaQ _ hp);have hst:p.1 ∉ frs X.stack:=λz=>by
   rcases (zbt I hs hf).mp z with z | z
   ·exact p3 z
   ·exact p4 z
  have hB:=bk.old p.1 p.2 p1 p2 hst
  have hne:p.1≠ea:=λz=>by rw[z,fl5.2.1] at hB; cases hB
  exact⟨fl5.1 _ _ hB,by rw[zah hne]; exact un.free _ _ p1 p2 (by simp),p3,p4,p5⟩
 ·intro b u e;by_cases hb:b=ea
  ·subst hb;rw[zaI] at e;cases e;exact⟨⟨oe,hoe,hce,h2e⟩,⟨oe,hoe⟩,λh1 h2 ⟨o,q1,q2⟩ k=>⟨o,k o q1,q2⟩⟩
  ·rw[zah hb] at e;exact(hok5 b u e).stay (λ_ _ _ z=>z) (λd z=>by rw[zah (zaG z bk.new)]; exact z) λd xs z=>by rw[zah (zaG z bk.new)]; exact z
end
def HdA (A:Around)(H:Hp):Prop:=A.handled=none∨∃e c,A.handled=some (.ref e)∧H e=some (isX e c)
theorem HdA.heap {X:Cx}{pins:List (Addr×Obj)}{σ:St}{H:Hp}{s:Shared}{A:Around}(h:HdA A H)(I:Inv X pins σ H s):HdH A s.heap:=h.imp id λ⟨e,c,a,b⟩=>
 let ⟨o,q1,_,q2⟩:=(I.hok e _ b).1
 ⟨e,a,o,q1,q2⟩
def ZH (A:Around):Zx:=⟨λ_ _ _=>True,λ_ _ _ H=>HdA A H⟩
theorem zeS {K:PySem.W.Frag}{A:Around}{r:List Addr}{S:Sto}{H:Hp}{dl:Ev}{σ:St}(rel:Rel K (ZH A) r S H)(rs:Rs r H dl σ):HdA A H:=rel.xw dl σ 0 H r S Ext.refl rs rel.b trivial
section
variable {X:Cx}{Z:Zx}
theorem zi0 {Z':Zx}{r r':List Addr}{H H':Hp}{S:Sto}{E:zch}{F:zaU}(ret:zbA X.K Z r H E F)(rel:Rel X.K Z r S H)(x:Ext r r' H H'):zbA X.K Z' r' H' E F:=by
 have back:∀ {H2:Hp} {r2:List Addr} {S2:Sto},Ext r' r2 H' H2→Rel X.K Z' r2 S2 H2→Rel X.K Z r2 S2 H2:=λx2 rel2=>⟨rel2.b,rel.xw.ext (x.trans x2)⟩
 exact⟨λσ2 H2 r2 dl2 S2 x2 rs2 rel2 q=>ret.nx σ2 H2 r2 dl2 S2 (x.trans x2) rs2 (back x2 rel2) q,λσ2 H2 r2 dl2 S2 x2 rs2 rel2 q=>ret.bk σ2 H2 r2 dl2 S2 (x.trans x2) rs2 (back x2 rel2) q,
  λσ2 H2 r2 dl2 S2 x2 rs2 rel2 q=>ret.ct σ2 H2 r2 dl2 S2 (x.trans x2) rs2 (back x2 rel2) q,λv H2 r2 d S2 x2 rel2 p q=>ret.rt v H2 r2 d S2 (x.trans x2) (back x2 rel2) p q⟩
theorem zdF {pins:List (Addr×Obj)}{σ:St}{H:Hp}{s:Shared}{A:Around}{E:Value→Shared→Prop}{i:Nat}{n:Str}{pos:Pos}{Q:Unit→Shared→Prop}(I:Inv X pins σ H s)(hN:X.N.Nodup)(hi:X.N[i]?=some n)(hl:X.env.scope.names.lookup n=some .cell)(hfn:X.fn n=true)
  (h:∀s',Inv X pins (σ.set i none) H s'→Q () s'):wpAny (model X.prog X.w) A (do bindName X.env n .none; unbindBehindTheSuite X.env n pos) Q E s:=by
 refine wpAny_bind (wpAny_bindName (zd5 (v:=.non) I hN hi (.inr hl) rfl (λs1 J=>?_) (.inl hfn)));obtain⟨c,hc⟩:=J.ok.has n (.inl hl);obtain⟨m,hn,hloc⟩:=J.loc;have hiσ:i<σ.length:=by rw[I.len]; exact(Vad.mp hi).1
 obtain⟨u,ru,lk⟩:=hloc i n .non hi (by rw[Vai hiσ]) (.inr (.inl hl));have z:s1.heap.IsCell c (some u):=by
  rcases lk with ⟨k,_⟩ | ⟨_,c',e,q⟩
  ·rw[show X.env.kindOf n=some .cell from hl] at k; cases k
  ·rw[hc] at e; cases e; exact q
 unfold unbindBehindTheSuite unbindName;refine wpAny_onRaise (wpAny_bind (wpAny_point (wpAny_bind ?_)));unfold deleteName;rw[show X.env.kindOf n=some .cell from hl];dsimp only;refine wpAny_bind (wpAny_cellOf hc (wpAny_bind (wpAny_cellGet z ?_)));rw[if_pos rfl];refine wpAny_cellSet z λh' hc' hs=>wpAny_point (h _ ?_)
 obtain⟨oc,hoc,hocd⟩:=id z;have old:∀ {b:Addr} {o:Obj},X.s₀.heap.get? b=some o→b≠c:=λ{b o} e=>Vab (Vaa (Heap.lt_size e) (J.ok.cab n c hfn hc))
 have hok':HOk X.prog X.w H h':=λb ob e=>(J.hok b ob e).stay (λd w' hd q=>(hs.2 d (by
  rintro rfl;rcases hd with rfl | hd
  ·rw[J.freeC n _ hc] at e; cases e
  ·rw[J.freeC n _ hc] at hd; cases hd)).trans q) (λ_ q=>q) λ_ _ q=>q
 refine⟨J.ok,J.os,J.bare,⟨λb o e n hb hx=>(hs.2 b (old e)).trans (J.base.keep b o e n hb hx),λb o e n hb hx=>?_,J.base.free,λb o e hx=>?_,J.base.tups,J.base.frzs,J.base.tbls⟩,⟨m,hn.sameBut hs (Ne.symm (J.cne n c hc)),λj y v' e1 e2 e3=>?_⟩,λy c' e=>?_,J.free,J.freeC,λp hp=>?_,hok',by simpa using I.len⟩
 ·obtain⟨sl,e1⟩:=J.base.slot b o e n hb hx;exact⟨sl,(hs.2 b (old e)).trans e1⟩
 ·obtain⟨o',e1⟩:=J.base.there b o e hx;exact⟨o',(hs.2 b (old e)).trans e1⟩
 ·by_cases hj:j=i
  ·subst hj;rw[Vai hiσ] at e2;cases e2
  ·rw[Van (Ne.symm hj)] at e2;obtain⟨u',r',q⟩:=hloc j y v' e1 (by rw[Van (Ne.symm hj)]; exact e2) e3;refine⟨u',r',q.imp id λ⟨k,c',e,z'⟩=>⟨k,c',e,z'.sameBut hs λq=>?_⟩⟩;subst q;exact hj (zeN hN e1 (J.ok.inj _ _ _ e hc ▸ hi))
 ·by_cases hcc:c'=c
  ·subst hcc; exact⟨_,hc'⟩
  ·obtain⟨w2,z2⟩:=J.cell y c' e;exact⟨w2,z2.sameBut hs hcc⟩
 ·obtain⟨e,n1,ne,nf,d⟩:=J.pin p hp;refine⟨(hs.2 p.1 λq=>?_).trans e,n1,ne,nf,d⟩;rw[q,hoc] at e;cases e;exact d _ hocd
end
section
variable {X:Cx}{Z:Zx}
theorem zhV {body:List Stmt}{b0:Stmt}{suite:List Stmt}{hx nm:Str}{np hp pos:Pos}{C:Addr}{n i:Nat}{tb:(Ev→Addr→Sto→Prop)→TDS}{hit:Addr→Bool}{ts:TDS}(hex:X.ex=[])(hs:X.stack=X.env::X.outer)(hf:X.env.frame=some X.env.locals)
  (hfn:∀x,X.fn x=true)(hn:X.N.length=n)(hN:X.N.Nodup)(hi:X.N[i]?=some nm)(hl:X.env.scope.names.lookup nm=some .cell)(hm:X.mg hx=some (.ref C))(hg:Gl X hx)
  (hh:∀c,hit c=true→PySem.W.exmOne X.K (.ref c) (.ref C)=some true)
  (hb:∀(pins:List (Addr×Obj)) (xe:Value→Shared→Prop) (ex:Ev→Addr→Sto→Prop) (W:St→XK),za6 (Cx.held X pins xe) W→zaZ (Cx.held X pins xe) ⟨ex,W⟩ body (tb ex))
  (hsu:∀(A:Around) (xe:Value→Shared→Prop),(∀k,zan k X.A→zaE k A)→zaZ (Cx.mrk X A xe) (ZH A) (b0::suite) ts)(hd:(hx==("__debug__":Str))=false:=by decide):
  PDS X Z (.Try body [.ExceptHandler (some (.Name hx np)) (some nm) (b0::suite) hp] [] [] pos) (dTryA n i tb hit ts):=by
 intro pins s σ H F I h;obtain⟨r,dl,S,E,rs,rel,h,ret⟩:=h;subst hn;have pass:za6 (Cx.held X pins (λe s1=>wpAny (model X.prog X.w) X.A (noteFrame e X.env) (λ_ s2=>wpAny (model X.prog X.w) X.A (setFlight e none) (λ_ s3=>wpAny (model X.prog X.w) X.A (handleBy e X.env [.ExceptHandler (some (.Name hx np)) (some nm) (b0::suite) hp]) (SP X pins F) X.xe s3) X.xe s2) X.xe s1))
   (λσ' cls _ H'=>∃c r' S' dl',cls=.ref c∧Ext r r' H H'∧zaq X.K r' S' H'∧Rs r' H' dl' σ'∧hit c=true∧ts { nx:=λdl' S2=>E.nx (dl'.set i none) S2,rt:=E.rt,bk:=λdl' S2=>E.bk (dl'.set i none) S2,ct:=λdl' S2=>E.ct (dl'.set i none) S2 } (dl'.set i (some (.exc c))) S'):=by
  intro pins' σ' H1 s1 e s2 I1 hq;obtain⟨ea,c,a0,B,H',rfl,os,bare,un,hok,fl,bk,c',r',S',dl',ec,x',rb',rs',hit',hts⟩:=hq;cases ec;have fl0:za7 B (X.env::X.outer) ea (.ref c) a0 s2.heap:=by rw[← hs]; exact fl
  refine zhW (by rw[← hs]; exact I.ok.frames) hf fl0 λh4 held4 up4=>?_
  refine zkk held4 λh5 fl5 up5=>?_
  have I5:=zfD hex hs hf hfn I.ok I1 os bare un hok fl0 fl5 (up4.trans up5) bk
  have LT:PySem.W.Looks (model X.prog X.w) h5 (typeOf (.ref ea)) (.ref c):=by
   obtain⟨ob,hob,hc⟩:=fl5.1.there;rw[← hc];exact(PySem.W.Looks.ld hob).andThen .now
  refine wpAny_handleBy_cons (codeAny_handlers_test ?_) (by intro q; cases q);have I5m:Inv (Cx.mrk X (X.A.mark (some (.ref ea))) X.xe) pins σ' (upd H' ea (isX ea c)) { s2 with heap:=h5 }:=⟨zej I.ok rfl,I5.os,I5.bare,I5.base,I5.loc,I5.cell,I5.free,I5.freeC,I5.pin,I5.hok,I5.len⟩;refine zbW I5m hg hm ?_ hd;refine(PySem.W.exm_one (M:=model X.prog X.w) I5.kIn LT (hh c hit')).here ?_;refine codeAny_handlers_suite_as (zh4 fl5 λh6 fl6 up6=>?_);have I6:=zfD hex hs hf hfn I.ok I1 os bare un hok fl0 fl6 ((up4.trans up5).trans up6) bk;refine zd5 (v:=.ref ea) I6 hN hi (.inr hl) rfl (λs7 I7=>?_) (.inl (hfn nm));have x6:Ext r' r' H' (upd H' ea (isX ea c)):=zfa bk.new
  have ret6:=zi0 (Z':=ZH (X.A.mark (some (.ref ea)))) ret rel (x'.trans x6)
  have rs6:Rs r' (upd H' ea (isX ea c)) (dl'.set i (some (.exc c))) (σ'.set i (some (.ref ea))):=(rs'.ext x6).set i (.exc zaI);refine wpAny_mono (hsu (X.A.mark (some (.ref ea))) _ (λ_ q=>⟨q.dp,q.un⟩) pins s7 _ (upd H' ea (isX ea c))
   { nx:=λσ2 H2=>F.nx (σ2.set i none) H2,rt:=F.rt,bk:=λσ2 H2=>F.bk (σ2.set i none) H2,ct:=λσ2 H2=>F.ct (σ2.set i none) H2 } ⟨zej I.ok rfl,I7.os,I7.bare,I7.base,I7.loc,I7.cell,I7.free,I7.freeC,I7.pin,I7.hok,I7.len⟩
   ⟨r',_,S',_,rs6,⟨rb'.same (zbm bk.new),λ_ _ _ H2 _ _ x2 _ _ _=>.inr ⟨ea,c,rfl,x2.xc _ _ zaI⟩⟩,hts,⟨λσ2 H2 r2 dl2 S2 x2 rs2 rel2 q=>ret6.nx _ H2 r2 _ S2 x2 (zfe i rs2) rel2 q,λσ2 H2 r2 dl2 S2 x2 rs2 rel2 q=>ret6.bk _ H2 r2 _ S2 x2 (zfe i rs2) rel2 q,
    λσ2 H2 r2 dl2 S2 x2 rs2 rel2 q=>ret6.ct _ H2 r2 _ S2 x2 (zfe i rs2) rel2 q,ret6.rt⟩⟩) (λf s' q=>?_) λ_ _ q=>q
  have q':=zg4 I.ok q;cases f with
  | next=>obtain⟨σ2,H2,I2,q2⟩:=q'; exact zdF I2 hN hi hl (hfn nm) λs3 I3=>⟨_,H2,I3,q2⟩
  | brk=>obtain⟨σ2,H2,I2,q2⟩:=q'; exact zdF I2 hN hi hl (hfn nm) λs3 I3=>⟨_,H2,I3,q2⟩
  | cont=>obtain⟨σ2,H2,I2,q2⟩:=q'; exact zdF I2 hN hi hl (hfn nm) λs3 I3=>⟨_,H2,I3,q2⟩
  | ret u=>obtain⟨v2,σ2,H2,I2,rv2,q2⟩:=q'; exact zdF I2 hN hi hl (hfn nm) λs3 I3=>⟨v2,_,H2,I3,rv2,q2⟩
 refine wpAny_Try_except (wpAny_mono (hb pins _ _ _ pass [] s σ H F (zjp I _)
  ⟨r,dl,S,E,rs,⟨rel.b,λdl' σ' c H' r' S' x rs' rb q=>⟨c,r',S',dl',rfl,x,rb,rs',q⟩⟩,h,zhb ret rel⟩) (λf s1 q=>?_) λ_ _ q=>q)
 have q':=zkf I.ok q;cases f with
 | next=>exact wpAny_execs_nil q'
 | brk=>exact q'
 | cont=>exact q'
 | ret u=>exact q'
open PySem.W in
end
structure zgI (Ar:Around)(P:Program)(w:World)(K:PySem.W.Frag)(tg:Expr)(J:It)(fp:List Addr)(it:Addr)(tn:Nat→Heap→Prop):Prop where
 mem:it∈fp
 obj:∀i h,tn i h→∀b∈fp,∃o,h.get? b=some o∧∀v,o.data≠.cell v
 keep:∀i h h',tn i h→(∀b∈fp,∀o,h.get? b=some o→h'.get? b=some o)→tn i h'
 item:∀(X:Cx),X.prog=P→X.w=w→X.K=K→X.A=Ar→∀(i:Nat) (pins:List (Addr×Obj)) (s:Shared) (σ:St) (H:Hp) (E:Value→Shared→Prop),Inv X pins σ H s→(∀b∈fp,zaS X pins H b)→tn i s.heap→J.go i H→
  wpAny (model P w) X.A (pyNext (.ref it)) (λr s1=>∃u,r=some u∧
   wpAny (model P w) X.A (letOwnedTupleGo tg (.ref it) u) (λ_ s2=>∃x H',Inv X pins σ H' s2∧zab x u∧J.yld i H x H'∧tn (i+1) s2.heap∧∀b∈fp,H' b=none) E s1) E s
 done:∀(X:Cx),X.prog=P→X.w=w→X.K=K→X.A=Ar→∀(i:Nat) (pins:List (Addr×Obj)) (s:Shared) (σ:St) (H:Hp) (E:Value→Shared→Prop),Inv X pins σ H s→(∀b∈fp,zaS X pins H b)→tn i s.heap→J.stop i H→
  wpAny (model P w) X.A (pyNext (.ref it)) (λr s1=>r=none∧Inv X pins σ H s1) E s
 self:∀(A:Around) (i:Nat) (s:Shared) (Q:Value→Shared→Prop) (E:Value→Shared→Prop),tn i s.heap→Q (.ref it) s→wpAny (model P w) A (pyIter (.ref it)) Q E s
def PIEH (X:Cx)(pins:List (Addr×Obj))(σ:St)(tg:Expr)(R:It→Hp→Prop)(itv:Value)(s2:Shared):Prop:=
 ∃(it:Addr) (fp:List Addr) (tn:Nat→Heap→Prop) (J:It) (H':Hp),itv=.ref it∧Inv X pins σ H' s2∧zgI X.A X.prog X.w X.K tg J fp it tn∧tn 0 s2.heap∧(∀b∈fp,zaS X pins H' b)∧R J H'
def PIH (X:Cx)(tg iter:Expr)(wi:TI):Prop:=
 ∀(pins:List (Addr×Obj)) (s:Shared) (σ:St) (H:Hp) (R:It→Hp→Prop),Inv X pins σ H s→wi σ H R→
  wpAny (model X.prog X.w) X.A (eval iter X.env) (λv s1=>wpAny (model X.prog X.w) X.A (pyIter v) (PIEH X pins σ tg R) X.xe s1) X.xe s
def ItrH (A:Around)(lo:Int)(n:Nat):It:=⟨λi _=>i<n,λi H x H'=>H'=H∧x=.int (lo+i),λi H=>n≤i∧HdA A H⟩
theorem zhg {Ar:Around}{P:Program}{w:World}{K:PySem.W.Frag}{tg:Expr}(it:Addr)(lo:Int)(n:Nat):zgI Ar P w K tg (ItrH Ar lo n) [it] it (λi h=>IsRangeIter h it (lo+(i:Nat)*1) ((n:Int)-(i:Nat)) 1) where
 mem:=by simp
 obj:=λi h st b hb=>by
  have e:b=it:=by simpa using hb
  subst e;exact⟨_,st,λv z=>by
   have z':Data.fields _=Data.cell v:=z;cases z'⟩
 keep:=λi h h' st k=>k it (by simp) _ st
 item:=by
  intro X hP hw hK hc i pins s σ H E I hf st hg;subst hP hw hK;obtain⟨f0,f1,f2,f3,f4,f5⟩:=hf it (by simp);have hg':i<n:=hg;refine wpAny_pyNext_range_item st (by omega) λh' st' sb=>?_
  have I1:Inv X pins σ H { s with heap:=h',toks:=s.toks+1 }:=I.turned (λb o hb e=>(sb.2 b hb).trans e) f0 f1 f3 f4 f5
  have e1:lo+((i+1:Nat):Int)*1=lo+(i:Int)*1+1:=by omega
  have e2:(n:Int)-((i+1:Nat):Int)=(n:Int)-(i:Int)-1:=by omega
  rw[← e1,← e2] at st';refine⟨_,rfl,zfO (s:={ s with heap:=h',toks:=s.toks+1 }) (n:="range_iterator") st' rfl rfl (by decide) ⟨.int (lo+i),H,I1,⟨s.toks,?_⟩,⟨rfl,rfl⟩,st',λb hb=>(hf b hb).1⟩⟩;rw[Int.mul_one]
 done:=by
  intro X hP hw hK hc i pins s σ H E I hf st hg;subst hP hw hK;obtain⟨f0,f1,f2,f3,f4,f5⟩:=hf it (by simp);exact zko (HdA.heap (by rw[hc]; exact hg.2) I) st (by have:n≤i:=hg.1; omega) λh' eb=>⟨rfl,I.turned (t':=s.toks) (λb o hb e=>eb b o hb e) f0 f1 f3 f4 f5⟩
 self:=λ_ _ _ _ _ st h=>wpAny_pyIter_rangeiter st h
section
variable {X:Cx}{tg:Expr}
theorem zjM {pins:List (Addr×Obj)}{σ:St}{H:Hp}{s:Shared}{R:It→Hp→Prop}{E:Value→Shared→Prop}{lo hi:Int}{t u v:Tok}{tk:Nat}(I:Inv X pins σ H s)(h1:-(2^62)≤lo)(h2:lo<2^62)(h3:-(2^62)≤hi)(h4:hi<2^62)
  (q:R (ItrH X.A lo (hi-lo).toNat) H):wpAny (model X.prog X.w) X.A (pyIter (.ref s.heap.objs.size)) (PIEH X pins σ tg R) E { s with heap:=s.heap.push { cls:=.type "range",data:=.fields #[.int lo t,.int hi u,.int 1 v] },toks:=tk }:=by
 refine wpAny_pyIter_range (IsRange.new ..) (small_one h1 h2 h3 h4) ?_;have I1:Inv X pins σ H { s with heap:=s.heap.push { cls:=.type "range",data:=.fields #[.int lo t,.int hi u,.int 1 v] },toks:=tk }:=I.kept λb o e=>Heap.get?_push_of_some _ e
 refine⟨(s.heap.push { cls:=.type "range",data:=.fields #[.int lo t,.int hi u,.int 1 v] }).objs.size,[(s.heap.push { cls:=.type "range",data:=.fields #[.int lo t,.int hi u,.int 1 v] }).objs.size],_,_,H,rfl,
  I1.kept (t':=tk) λb o e=>Heap.get?_push_of_some _ e,zhg _ lo (hi-lo).toNat,?_,λb hb=>?_,q⟩
 ·have e1:lo+((0:Nat):Int)*1=lo:=by simp
  have e2:(((hi-lo).toNat:Nat):Int)-((0:Nat):Int)=Builtin.Range.rangeSize lo hi 1:=by rw[rangeSize_one]; split <;> omega
  show IsRangeIter _ _ (lo+((0:Nat):Int)*1) ((((hi-lo).toNat:Nat):Int)-((0:Nat):Int)) 1;rw[e1,e2];exact Heap.get?_push_size _ rfl
 ·have e:b=(s.heap.push { cls:=.type "range",data:=.fields #[.int lo t,.int hi u,.int 1 v] }).objs.size:=by simpa using hb
  subst e;exact I1.fpOk (Vac _) (I1.hok.fresh (Vac _))
def zfu (A:Around)(ta:TA):TI:=λσ H R=>ta σ H λvs H1=>∃j:Int,vs=[.int j]∧-(2^62)≤j∧j<2^62∧R (ItrH A 0 j.toNat) H1
theorem zfV {a:Expr}{ta:TA}{p pos:Pos}(hg:Gl X "range")(hm:X.mg "range"=none)(ha:PA X [a] ta)(hs:starEach [a] X.env=[(false,eval a X.env)]:=by rfl):PIH X tg (.Call (.Name "range" p) [a] [] pos) (zfu X.A ta):=by
 intro pins s σ H R I h;refine Call_ (zcZ I hg hm boot_range (PyProof.Rows.callWith_type1 (thn (ha pos pins s σ H _ I h) λus s1 ⟨vs,H1,I1,r1,q1⟩=>?_) hs rfl));obtain⟨j,e,q1,q2,q⟩:=q1;subst e;cases r1 with
 | cons r rr=>
  cases rr;obtain⟨t,rfl⟩:=r;exact call_range_1 (zjM I1 (by omega) (by omega) q1 q2 (by simpa using q))
end
section
variable {X:Cx}{elt iter:Expr}{x:Str}{px pos:Pos}{ifs:List Expr}{sc:Scope}{N:List Str}{caps:List Nat}{wi:TI}{tc:TT}{te:TE}
theorem zgG {use:Option (Value→Sem Unit)}{Qr:Value→Shared→Prop}(cs:za9 sc X.env.scope x N)(hN:∀(j:Nat) (y:Str),N[j]?=some y→∃i,caps[j]?=some i∧X.N[i]?=some y)(hlen:caps.length=N.length)(hnd:(x::N).Nodup)
  (hi:PIH X (.Name x px) iter wi)(ht:∀cl C s0 H0 fp pn,PTs (Cx.comp X sc (x::N) cl C s0 H0 fp pn) ifs tc)(he:∀cl C s0 H0 fp pn,PE (Cx.comp X sc (x::N) cl C s0 H0 fp pn) elt te)
  (hs:∀y,foldedSetIterable iter X.env y=pure y)
  {pins:List (Addr×Obj)}{s:Shared}{σ:St}{H:Hp}{Q:VK}{p2:Pos}(I:Inv X pins σ H s)(h:zbI caps wi tc te σ H Q)
  (fin:∀D C s',zgP X pins σ C Q D s'→compPost (model X.prog X.w) X.A X.xe use Qr (.ref D) C (.ok .next) s'):
  wpAny (model X.prog X.w) X.A (comprehension (.ListComp elt [⟨.Name x px,iter,ifs,0⟩] sc pos) sc X.env p2 (newList []) false (eval iter X.env) use) Qr X.xe s:=by
 obtain⟨cl,k1,k2,k3⟩:=zf3 (sc:=sc) (env:=X.env) λy hy hf=>I.ok.has y.1 (.inl (cs.out y hy hf))
 refine wpAny_comprehension_free rfl hs k1 cs.kind cs.own (thn (hi pins s σ H _ I h) λv s1 h1=>thn h1 λitv s2 h2=>?_);obtain⟨it,fp,tn,J,H2,e,I2,T,st2,f2,body⟩:=h2;subst e;have hfo:∀b∈fp,b<s2.heap.objs.size:=λb hb=>by
  obtain⟨o,e,_⟩:=T.obj _ _ st2 b hb;exact Heap.lt_size e
 have hD:H2 s2.heap.objs.size=none:=I2.hok.fresh (Vac _);obtain⟨W,⟨m0,w0⟩,turn⟩:=body _ hD;refine wpAny_newObj_type ?_;have I3:Inv X pins σ (upd H2 s2.heap.objs.size (.lst [])) { s2 with heap:=s2.heap.push { cls:=.type "list",dict:=none,data:=.seq ([]:List Value).toArray },toks:=s2.toks }:=
  I2.laid (t':=s2.toks) (λb u e=>Heap.get?_push_of_some _ e) (Vac _) ⟨VaA _,[],0,.nil,Heap.get?_push_size _ rfl⟩
 generalize hs3:({ s2 with heap:=s2.heap.push { cls:=.type "list",dict:=none,data:=.seq ([]:List Value).toArray },toks:=s2.toks }:Shared)=s3 at I3;have es3:({ s2 with heap:=s2.heap.push { cls:=.type "list",dict:=none,data:=.seq ([]:List Value).toArray } }:Shared)=s3:=hs3
 try rw[es3]
 have f3:∀b∈fp,zaS X pins (upd H2 s2.heap.objs.size (.lst [])) b:=λb hb=>⟨by rw[zah (Vab (hfo b hb))]; exact(f2 b hb).1,(f2 b hb).2⟩
 have up3:∀b o,s2.heap.get? b=some o→s3.heap.get? b=some o:=λb o e=>by rw[← hs3]; exact Heap.get?_push_of_some _ e
 have st3:tn 0 s3.heap:=T.keep _ _ _ st2 λb _ o e=>up3 b o e
 have hfo3:∀b∈fp,b<s3.heap.objs.size:=λb hb=>by
  obtain⟨o,e,_⟩:=T.obj _ _ st3 b hb;exact Heap.lt_size e
 refine wpAny_newFunctionEnv cs.nocell (λy hy=>by simp at hy) (λh4 ns4 sb4=>?_) cs.kind;have hk4:∀b o,s3.heap.get? b=some o→h4.get? b=some o:=λb o e=>(sb4.2 b (Vab (Heap.lt_size e))).trans (Heap.get?_push_of_some _ e)
 have I4:=zfw (tk:=s3.toks+([]:List (Str×Value)).length) I3 cs hN hlen k2 k3 f3 hfo3 ns4 hk4;generalize hs4:({ s3 with heap:=h4,toks:=s3.toks+([]:List (Str×Value)).length }:Shared)=s4 at I4 ⊢;have eh4:s4.heap=h4:=by rw[← hs4]
 have st4:tn 0 s4.heap:=by rw[eh4]; exact T.keep _ _ _ st3 λb _ o e=>hk4 b o e
 have fY:∀ {H':Hp},(∀b∈fp,H' b=none)→∀b∈fp,zaS (Cx.comp X sc (x::N) cl s3.heap.objs.size s3 (upd H2 s2.heap.objs.size (.lst [])) fp (X.pn++pins)) [] H' b:=λhn b hb=>by
  obtain⟨_,z2,z3,z4,z5,z6⟩:=f3 b hb;refine⟨hn b hb,Vab (hfo3 b hb),λz=>?_,.inl hb,λy c e=>z5 y c (k2 _ _ e),λp hp=>z6 p (by simpa using hp)⟩;rcases Vah.mp (I3.stkSub b z) with z | z
  ·exact z2 z
  ·exact z3 z
 have locY:(Cx.comp X sc (x::N) cl s3.heap.objs.size s3 (upd H2 s2.heap.objs.size (.lst [])) fp (X.pn++pins)).env.scope.names.lookup x=some .local:=lookup_relabel_local cs.loc
 have loop:codeAny (model X.prog X.w) X.A (.compLoop (.ListComp elt [⟨.Name x px,iter,ifs,0⟩] sc pos) 0 (.ref it) (.ref s2.heap.objs.size) (compEnvC sc cl s3.heap.objs.size X.env))
   (compPost (model X.prog X.w) X.A X.xe use Qr (.ref s2.heap.objs.size) s3.heap.objs.size) s4:=by
  refine codeAny_compLoop_tests (λn s'=>∃i o H',Inv (Cx.comp X sc (x::N) cl s3.heap.objs.size s3 (upd H2 s2.heap.objs.size (.lst [])) fp (X.pn++pins)) [] (o::zaA caps σ) H' s'∧tn i s'.heap∧(∀b∈fp,H' b=none)∧W i n H') ?_ m0
   ⟨0,none,_,I4,st4,λb hb=>(f3 b hb).1,w0⟩
  rintro n s5 ⟨i,o,H5,I5,st5,fr5,w5⟩;rcases turn i n H5 w5 with ⟨stop,q⟩ | ⟨go,step⟩
  ·refine thn (T.done (Cx.comp X sc (x::N) cl s3.heap.objs.size s3 (upd H2 s2.heap.objs.size (.lst [])) fp (X.pn++pins)) rfl rfl rfl rfl i [] s5 _ H5 _ I5 (fY fr5) st5 stop) λr s6 ⟨hr,I6⟩=>?_
   subst hr;refine fin _ _ _ ⟨⟨H5,I3.call' I6.os I6.base I6.hok I6.bare (λb hb=>?_),q,I6.free⟩,?_,VaR I3.lt,I3.sz,λy c e z=>?_,λp hp z=>?_⟩
   ·obtain⟨_,z2,z3,z4,z5,z6⟩:=f3 b hb;exact⟨z4,z2,z5,z6⟩
   ·obtain⟨m,hm,_⟩:=I6.loc;exact⟨m,hm⟩
   ·obtain⟨v,hv⟩:=I3.cell y c e;exact absurd (z ▸ hv.lt) (Val _)
   ·exact absurd (z ▸ Heap.lt_size (I3.pin p hp).1) (Val _)
  ·refine thn (T.item (Cx.comp X sc (x::N) cl s3.heap.objs.size s3 (upd H2 s2.heap.objs.size (.lst [])) fp (X.pn++pins)) rfl rfl rfl rfl i [] s5 _ H5 _ I5 (fY fr5) st5 go) λr s6 ⟨u,hr,h6⟩=>?_
   subst hr;show wpAny _ _ (letOwnedTupleGo (.Name x px) (.ref it) u >>= λ_=>assign (.Name x px) (compEnvC sc cl s3.heap.objs.size X.env) u) _ _ s6;refine wpAny_bind (thn h6 λ_ s7 ⟨y,H7,I7,r7,y7,st7,fr7⟩=>?_);have I7':=I7.pinned (fY fr7) (T.obj _ _ st7);refine wpAny_mono (zgA (X:=Cx.comp X sc (x::N) cl s3.heap.objs.size s3 (upd H2 s2.heap.objs.size (.lst [])) fp (X.pn++pins)) (pos:=px) hnd (i:=0) rfl (.inl locY) (.inr locY) _ s7 _ H7 y u (λσ8 H8=>σ8=some y::zaA caps σ∧H8=H7) I7' r7 ⟨rfl,rfl⟩) (λ_ s8 ⟨σ8,H8,I8,e8,e8'⟩=>?_) λ_ _ z=>z.elim
   subst e8;subst e8';have stay:∀ {H':Hp} {s':Shared},Inv (Cx.comp X sc (x::N) cl s3.heap.objs.size s3 (upd H2 s2.heap.objs.size (.lst [])) fp (X.pn++pins)) ([]++zcn fp s7.heap) (some y::zaA caps σ) H' s'→∀m',m'<n→W (i+1) m' H'→
     ∃m,m<n∧∃i o H',Inv (Cx.comp X sc (x::N) cl s3.heap.objs.size s3 (upd H2 s2.heap.objs.size (.lst [])) fp (X.pn++pins)) [] (o::zaA caps σ) H' s'∧tn i s'.heap∧(∀b∈fp,H' b=none)∧W i m H':=λ{H' s'} J m' hm w'=>by
    refine⟨m',hm,i+1,some y,H',J.unpinned,T.keep _ _ _ st7 λb hb o e=>(J.pin (b,o) (Vao _ (Vao _ (zde hb e)))).1,λb hb=>?_,w'⟩;obtain⟨o,e,d⟩:=T.obj _ _ st7 b hb;exact(J.pin (b,o) (Vao _ (Vao _ (zde hb e)))).2.1
   refine wpAny_mono (ht _ _ _ _ _ _ _ s8 _ H8 _ I8 (step y H8 y7)) (λb s9 ⟨H9,I9,q9⟩=>?_) λ_ _ z=>z.elim
   cases b with
   | false=>
    rw[if_neg Vae] at q9 ⊢;obtain⟨m',hm,w9⟩:=q9;exact stay I9 m' hm w9
   | true=>
    rw[if_pos rfl] at q9 ⊢;refine wpAny_mono (he _ _ _ _ _ _ _ s9 _ H9 _ I9 q9) (λu2 s10 ⟨z,H10,I10,r10,q10⟩=>?_) λ_ _ z=>z.elim
    obtain⟨ys,hD10,hlt,m',hm,w10⟩:=q10;refine wpAny_mono (zfM (X:=(Cx.comp X sc (x::N) cl s3.heap.objs.size s3 (upd H2 s2.heap.objs.size (.lst [])) fp (X.pn++pins))) _ s10 _ H10 (.ref s2.heap.objs.size) [z] (.ref s2.heap.objs.size) [u2] (λ_ H'=>H'=upd H10 s2.heap.objs.size (.lst (ys++[z]))) I10 rfl (.cons r10 .nil) ⟨_,ys,z,rfl,rfl,hD10,hlt,rfl⟩) (λ_ s11 ⟨_,H11,I11,_,e11⟩=>?_) λ_ _ z=>z.elim
    subst e11;exact stay I11 m' hm w10
 exact codeAny_compStart_list loop (T.self _ 0 s4 _ _ st4 loop)
theorem ziR (cs:za9 sc X.env.scope x N)(hN:caps.map (λi=>X.N[i]?)=N.map some)(hnd:(x::N).Nodup)
  (hi:PIH X (.Name x px) iter wi)(ht:∀cl C s0 H0 fp pn,PTs (Cx.comp X sc (x::N) cl C s0 H0 fp pn) ifs tc)(he:∀cl C s0 H0 fp pn,PE (Cx.comp X sc (x::N) cl C s0 H0 fp pn) elt te)
  (hs:∀y,foldedSetIterable iter X.env y=pure y:=by intro _; rfl):PE X (.ListComp elt [⟨.Name x px,iter,ifs,0⟩] sc pos) (zbI caps wi tc te):=by
 intro pins s σ H Q I h;rw[eval_ListComp];refine zgG (use:=none) cs (zb9 hN).1 (zb9 hN).2 hnd hi ht he hs I h λD C s' f=>?_
 obtain⟨⟨H',I',q,hC⟩,⟨m,ns⟩,l,o,c,p⟩:=f;exact⟨m,ns,λh' sb=>⟨.ref D,H',I'.turned (t':=s'.toks) (λb ob hb e=>(sb.2 b hb).trans e) hC l (.inr o) c p,rfl,q⟩⟩
theorem ziW {i:Nat}{y:Str}{py spos:Pos}(cs:za9 sc X.env.scope x N)(hN:caps.map (λi=>X.N[i]?)=N.map some)(hnd:(x::N).Nodup)
  (hi:PIH X (.Name x px) iter wi)(ht:∀cl C s0 H0 fp pn,PTs (Cx.comp X sc (x::N) cl C s0 H0 fp pn) ifs tc)(he:∀cl C s0 H0 fp pn,PE (Cx.comp X sc (x::N) cl C s0 H0 fp pn) elt te)
  (hNd:X.N.Nodup)(hy:X.N[i]?=some y)(hl:X.env.scope.names.lookup y=some .local)
  (hsw:swapsWith (.ListComp elt [⟨.Name x px,iter,ifs,0⟩] sc pos) (some (.Name y py)) spos.line X.env=pure true)
  (hs:∀y,foldedSetIterable iter X.env y=pure y:=by intro _; rfl):PS X (.Assign [.Name y py] (.ListComp elt [⟨.Name x px,iter,ifs,0⟩] sc pos) spos) (λE σ H=>zbI caps wi tc te σ H λv H1=>E.nx (σ.set i (some v)) H1):=by
 intro pins s σ H E I h;rw[exec_Assign_Name_used (hs:=hsw)];refine wpAny_bind (wpAny_standAt ?_); refine wpAny_bind ?_; show wpAny _ _ (comprehension _ sc X.env _ (newList []) false (eval iter X.env) (some (assign (.Name y py) X.env)) >>= λ_=>pure ()) _ _ s
 refine wpAny_bind (thn (zgG (use:=some (assign (.Name y py) X.env)) (Qr:=λ_ s'=>SP X pins E .next s') cs (zb9 hN).1 (zb9 hN).2 hnd hi ht he hs I h λD C s' f=>?_) λ_ s' hq=>wpAny_pure (wpAny_pure hq));obtain⟨⟨H',I',q,hC⟩,⟨m,ns⟩,l,o,c,p⟩:=f;refine wpAny_assign_Name (zfR (v:=.ref D) I' hNd hy (.inl hl) rfl (λs'' I'' ⟨a,sb,ha⟩=>⟨m,ns.sameBut sb ?_,λh' sb'=>⟨_,H',I''.turned (t':=s''.toks) (λb ob hb e=>(sb'.2 b hb).trans e) hC l (.inr o) c p,q⟩⟩) (.inr hl));rcases ha with rfl | ha
 ·exact l
 ·exact Ne.symm (c _ _ ha)
end
section
variable {X:Cx}{elt iter:Expr}{x:Str}{px pos:Pos}{ifs:List Expr}{sc ar:Scope}{N:List Str}{caps:List Nat}
theorem HdA.ext {A:Around}{r r':List Addr}{H H':Hp}(h:HdA A H)(x:Ext r r' H H'):HdA A H':=h.imp id λ⟨e,c,a,b⟩=>⟨e,c,a,x.xc _ _ b⟩
def zeO (Y:Cx)(ifs:List Expr)(t:TDT):Prop:=PTs Y ifs (upT Y.K (ZH Y.A) t)
theorem zf4 {Y:Cx}:zeO Y [] zcd:=λpins s σ H Qb I ⟨r,dl,S,Q,rs,rel,q,ret⟩=>zgH pins s σ H Qb I (ret true H r S Ext.refl rel q)
theorem zke {tc:TDT}{te:TDE}{r2:List Addr}{H2:Hp}{S1 S2:Sto}{dl:Ev}{σ:St}{D0:Addr}{d:D}{v:V}{nx:Sto→Prop}{Nx:Hp→Prop}(hd:HdA X.A H2)(rs:Rs r2 H2 dl σ)(ha:r2[S1.length]?=some D0)(rb:zaq X.K r2 S2 H2)(p:Rp r2 H2 d v)
  (h:zcD caps tc te S1.length dl d S2 nx)(hn:∀r' S' H',Ext r2 r' H2 H'→zaq X.K r' S' H'→nx S'→Nx H'):
  upT X.K (ZH X.A) tc (some v::zaA caps σ) H2 λb H3=>if b=true then up X.K (ZH X.A) te (some v::zaA caps σ) H3 λy H4=>∃ys,H4 D0=some (.lst ys)∧ys.length<sizeLine∧Nx (upd H4 D0 (.lst (ys++[y]))) else Nx H3:=by
 have rsY:Rs r2 H2 (some d::zbj caps dl) (some v::zaA caps σ):=zgw rs p;refine⟨r2,_,S2,_,rsY,⟨rb,λ_ _ _ _ _ _ x' _ _ _=>hd.ext x'⟩,h,λb H3 r3 S3 x3 rel3 q3=>?_⟩;cases b with
 | false=>rw[if_neg Vae] at q3 ⊢; exact hn r3 S3 H3 x3 rel3.b q3
 | true=>
  rw[if_pos rfl] at q3 ⊢;refine⟨r3,_,S3,_,rsY.ext x3,rel3,q3,λz H4 r4 dz S4 x4 rel4 p4 q4=>?_⟩;split at q4
  ·rename_i ys eys;obtain⟨hl,q4⟩:=q4;have ha4:r4[S1.length]?=some D0:=x4.adr _ _ (x3.adr _ _ ha);obtain⟨zs,hD4,pz⟩:=rel4.b.ob _ _ _ ha4 eys;obtain⟨rel5,x5⟩:=rel4.b.set ha4 eys (pz.snoc p4);exact⟨zs,hD4,by rw[← pz.1]; exact zek (Vaw hl),hn r4 _ _ (x3.trans (x4.trans x5)) rel5 q4⟩
  ·exact q4.elim
theorem zgK {ta:TDA}{tc:TDT}{te:TDE}{σ:St}{H:Hp}{Qv:VK}(h:up X.K (ZH X.A) (za2 caps ta tc te) σ H Qv):zbI caps (zfu X.A (upA X.K (ZH X.A) ta)) (upT X.K (ZH X.A) tc) (up X.K (ZH X.A) te) σ H Qv:=by
 obtain⟨r,dl,S,Q,rs,rel,h,ret⟩:=h;unfold za2 at h;refine⟨r,dl,S,_,rs,rel,h,λvs H1 r1 ds S1 x1 rel1 p1 q1=>?_⟩;split at q1
 ·rename_i j;obtain⟨v,vs',rfl,p2,p3⟩:=p1.uncons;have z:=p3.unnil;subst z;cases p2;obtain⟨⟨b1,b2⟩,W,w0,turn⟩:=q1;refine⟨j,rfl,b1,b2,λD0 hD=>?_⟩;obtain⟨rel2,x2⟩:=rel1.b.push (ds:=[]) (xs:=[]) hD Rps.nil;refine⟨λk m H'=>m=j.toNat-k∧∃r' S',Ext (r1++[D0]) r' (upd H1 D0 (.lst [])) H'∧zaq X.K r' S' H'∧W k S',⟨j.toNat,by simp,_,_,Ext.refl,rel2,w0⟩,?_⟩;rintro k m H2 ⟨em,r2,S2,x3,rb2,w2⟩;have ha2:r2[S1.length]?=some D0:=x3.adr _ _ (zfX rel1.len)
  have hd2:HdA X.A H2:=(zeS rel rs).ext (x1.trans (x2.trans x3))
  have q:=turn k S2 w2;split at q
  ·rename_i hk;refine .inr ⟨hk,λv' H' y'=>?_⟩;obtain⟨eH,y'⟩:=y';subst eH;subst y';have pk:Rp r2 H' (.int (k:Int)) (.int (0+(k:Int))):=by rw[Int.zero_add]; exact .int _
   have z:=zke (Nx:=λH'=>∃m',m'<m∧m'=j.toNat-(k+1)∧∃r' S',Ext (r1++[D0]) r' (upd H1 D0 (.lst [])) H'∧zaq X.K r' S' H'∧W (k+1) S') hd2 (rs.ext (x1.trans (x2.trans x3))) ha2 rb2 pk q
    λr' S' H' x' rb' w'=>⟨j.toNat-(k+1),by omega,rfl,r',S',x3.trans x',rb',w'⟩
   exact z
  ·rename_i hk;exact .inl ⟨⟨by show j.toNat≤k; omega,hd2⟩,ret _ H2 r2 _ S2 (x1.trans (x2.trans x3)) ⟨rb2,rel.xw.ext (x1.trans (x2.trans x3))⟩ (.ref ha2) q⟩
 ·exact q1.elim
theorem zj0 {ta:TDA}{tc:TDT}{te:TDE}{a:Expr}{p pos2:Pos}(har:X.env.scope=ar)(cs:za9 sc ar x N)(hN:caps.map (λi=>X.N[i]?)=N.map some)(hnd:(x::N).Nodup)(hg:Gl X "range")(hm:X.mg "range"=none)(ha:PDA X (ZH X.A) [a] ta)
  (ht:∀cl C s0 H0 fp pn,zeO (Cx.comp X sc (x::N) cl C s0 H0 fp pn) ifs tc)(he:∀cl C s0 H0 fp pn,PD (Cx.comp X sc (x::N) cl C s0 H0 fp pn) (ZH X.A) elt te)
  (hs:∀y,foldedSetIterable (.Call (.Name "range" p) [a] [] pos2) X.env y=pure y:=by intro _; rfl)(hst:starEach [a] X.env=[(false,eval a X.env)]:=by rfl):
  PD X (ZH X.A) (.ListComp elt [⟨.Name x px,.Call (.Name "range" p) [a] [] pos2,ifs,0⟩] sc pos) (za2 caps ta tc te):=by
 subst har;exact zay (ziR cs hN hnd (tc:=upT X.K (ZH X.A) tc) (te:=up X.K (ZH X.A) te) (zfV hg hm ha hst) ht he hs) λ_ _ _ h=>zgK h
theorem zjV {ta:TDA}{tc:TDT}{te:TDE}{a:Expr}{p pos2:Pos}{i:Nat}{y:Str}{py spos:Pos}(har:X.env.scope=ar)(cs:za9 sc ar x N)(hN:caps.map (λi=>X.N[i]?)=N.map some)(hnd:(x::N).Nodup)(hNd:X.N.Nodup)(hy:X.N[i]?=some y)
  (hlo:ar.names.lookup y=some .local)(hg:Gl X "range")(hm:X.mg "range"=none)(ha:PDA X (ZH X.A) [a] ta)
  (ht:∀cl C s0 H0 fp pn,zeO (Cx.comp X sc (x::N) cl C s0 H0 fp pn) ifs tc)(he:∀cl C s0 H0 fp pn,PD (Cx.comp X sc (x::N) cl C s0 H0 fp pn) (ZH X.A) elt te)
  (hsw:swapsWith (.ListComp elt [⟨.Name x px,.Call (.Name "range" p) [a] [] pos2,ifs,0⟩] sc pos) (some (.Name y py)) spos.line X.env=pure true:=by rfl)
  (hs:∀y,foldedSetIterable (.Call (.Name "range" p) [a] [] pos2) X.env y=pure y:=by intro _; rfl)(hst:starEach [a] X.env=[(false,eval a X.env)]:=by rfl):
  PDS X (ZH X.A) (.Assign [.Name y py] (.ListComp elt [⟨.Name x px,.Call (.Name "range" p) [a] [] pos2,ifs,0⟩] sc pos) spos) (zdH i (za2 caps ta tc te)):=by
 subst har;exact zb3 (ziW cs hN hnd (tc:=upT X.K (ZH X.A) tc) (te:=up X.K (ZH X.A) te) (zfV hg hm ha hst) ht he hNd hy hlo hsw hs) λF σ H h=>zhx (λ_ h=>zgK h) h
end
section
variable {X:Cx}{Z:Zx}
theorem zjG (k:Nat)(hu:X.A.units+1+k<cLine):OpR X (compareOp .Eq) (upO X.K Z (zbQ k)):=by
 intro pins s σ H x y v u Qv I rx ry h;obtain⟨r,S,dx,dy,Q,rel,px,py,q,ret⟩:=h;have zao:∀ {dx dy:D} {x y:V},Rp r H dx x→Rp r H dy y→zab x v→zab y u→zdo k S dx dy=eqN (k+1) dx dy→zbQ k dx dy S Q→wpAny (model X.prog X.w) X.A (compareOp .Eq v u) (EP X pins σ Qv) X.xe s:=λpx py rx ry e q=>by
  refine zeC (Z:=Z) (zcV k) hu pins s σ H _ _ v u Qv I rx ry ⟨r,S,_,_,Q,rel,px,py,?_,ret⟩;unfold zbQ at q;rw[e] at q;exact q
 cases px with
 | @ref n a hn=>
  cases py with
  | @ref m a' hm=>
   cases rx;cases ry;unfold zbQ zdo at q;dsimp only at q;split at q
   ·rename_i b e;split at e
    ·rename_i o o' eo eo';exact ziH I rel hn hm eo eo' e hu X.prog X.w X.xe _ ⟨.bl b,H,I,rfl,ret _ _ _ _ _ Ext.refl rel (.bl b) q⟩
    ·cases e
   ·exact q.elim
  | non=>exact zao (.ref hn) .non rx ry rfl q
  | bl i=>exact zao (.ref hn) (.bl i) rx ry rfl q
  | int i=>exact zao (.ref hn) (.int i) rx ry rfl q
  | str i=>exact zao (.ref hn) (.str i) rx ry rfl q
  | tup a b c=>exact zao (.ref hn) (.tup a b c) rx ry rfl q
  | xw a h2'=>exact zao (.ref hn) (.xw a h2') rx ry rfl q
  | exc a=>exact zao (.ref hn) (.exc a) rx ry rfl q
 | non=>exact zao .non py rx ry rfl q
 | bl i=>exact zao (.bl i) py rx ry rfl q
 | int i=>exact zao (.int i) py rx ry rfl q
 | str i=>exact zao (.str i) py rx ry rfl q
 | tup a b c=>exact zao (.tup a b c) py rx ry rfl q
 | xw a h2'=>exact zao (.xw a h2') py rx ry rfl q
 | exc a=>exact zao (.exc a) py rx ry rfl q
theorem zkg {k:Nat}(hr:zaE k X.A):OpR X (compareOp .Eq) (upO X.K Z (zb1 (zbQ 1))):=by rw[zdR]; exact zjG 1 (by have:=hr.un; omega)
theorem zjb {k:Nat}(hr:zaE k X.A):OpR X (compareOp .Eq) (upO X.K Z (wEq eq2)):=zeC (ze4 0) (by have:=hr.un; omega)
end
structure zbK (P:Program)(w:World)(K:PySem.W.Frag)(mg:Str→Option Value)(base:Heap)(k:Nat)(f:Addr)(fd:FuncData)(ps:List Str)(sp:Sp):Prop where
 len:∀vs H Q E,sp vs H Q E→vs.length=ps.length
 run:∀(A:Around) (outer:List Env) (s:Shared) (H:Hp) (args:Args) (us:List Value) (vs:List V) (Q:VK) (E:XK),zaE k A→HdA A H→zaY P w K mg base A outer s H→BindsTo s fd args (ps.zip us)→zac vs us→sp vs H Q E→
  codeAny (model P w) A (.call (.ref f) args) (CR (CXE P w) outer P w H s Q E) s
theorem zji {P:Program}{w:World}{K:PySem.W.Frag}{mg:Str→Option Value}{base:Heap}{k:Nat}{f:Addr}{name qual:Str}{params:Arguments}{body:List Stmt}{scope:Scope}{dV kV doc pm cdv ct oc:Value}{an od:Option Addr}
  {osl:Array (Option Value)}{N ps:List Str}{sp:Sp}(lk:K.lookup f=some ⟨oc,od,.func (PySem.W.fnOf name qual params body scope dV kV doc pm an cdv ct),osl⟩)(hcd:PySem.W.codeIn K cdv qual=true)(S:zau N ps scope)
  (len:∀vs H Q E,sp vs H Q E→vs.length=ps.length)
  (hbody:∀(A:Around) (outer:List Env) (s:Shared) (H:Hp) (vs:List V) (Q:VK) (E:XK),zaE k (A.deeper (envOfC qual scope s.heap.objs.size f cdv))→HdA A H→sp vs H Q E→
   ∃t,PSs (cxN P w K mg base N qual scope f cdv A outer s H E) body t∧t { nx:=λ_ H'=>Q .non H',rt:=Q } (zaP N vs) H):
  zbK P w K mg base (k+1) f (PySem.W.fnOf name qual params body scope dV kV doc pm an cdv ct) ps sp:=by
 refine⟨len,λA outer s H args us vs Q E hr hA e0 hb r hsp=>?_⟩;have hl:=len _ _ _ _ hsp
 have KX:K.In s.heap:=e0.mod.kin.keeps λb o e=>(e0.bs b o e).1
 have lim:s.heap.NoLimit:=e0.mod.nolimit.keeps λb o e=>(e0.bs b o e).1
 have hkind:∀y∈ps.zip us,scope.names.lookup y.1=some .local∨(scope.names.lookup y.1=some .cell∧((cellsFrom (s.heap.objs.size+1) scope.names []).lookup y.1).isSome=true):=λ⟨n,v⟩ hy=>by
  rcases S.par n (VaG hy).1 with q | q
  ·exact .inl q
  ·exact .inr ⟨q,PySem.W.cellsFrom_some _ _ _ (.inl q)⟩
 refine codeAny_call_function (show A.depth<recursionLimit by have:=hr.dp; omega) (KX _ _ lk) rfl S.co S.gen rfl (PySem.W.codeRec_of KX hcd) (hb _ _ _ _ ?_);refine wpAny_newFunctionEnv_cells S.kind hkind λenv he s1 x=>?_
 subst he;refine⟨lim.keeps x.toInCall.keep,codeAny_func ?_⟩;obtain⟨t,ht,hq⟩:=hbody A outer s H vs Q E (hr.deeper _) hA hsp;have I0:=zfK (CX:=CXE P w) (E:=E) (f:=f) (qual:=qual) (cd:=cdv) (A:={ A with handled:=none }) (H:=H) S rfl ⟨e0.frames,e0.mod,e0.bs,e0.bsz,e0.funs,e0.frf,e0.hok,e0.bare⟩ hl r x
 have I:Inv (cxN P w K mg base N qual scope f cdv A outer s H E) [] (zaP N vs) H s1:=⟨zej (A:=A.deeper (envOfC qual scope s.heap.objs.size f cdv)) (E:=(cxN P w K mg base N qual scope f cdv A outer s H E).xe) I0.ok rfl,I0.os,I0.bare,I0.base,I0.loc,I0.cell,I0.free,I0.freeC,I0.pin,I0.hok,I0.len⟩;refine wpAny_mono (ht [] s1 (zaP N vs) H _ I hq) (λfl s' hs=>?_) λe s' hs=>hs
 have fin:∀ {σ':St} {H':Hp} {v:V} {u:Value},Inv (cxN P w K mg base N qual scope f cdv A outer s H E) [] σ' H' s'→zab v u→Q v H'→CE outer P w H s Q u s':=
  λ{σ' H' v u} J rv q=>⟨v,H',J.os,J.bare,J.base,J.hok,rv,q⟩
 cases fl with
 | ret u=>
  obtain⟨v,σ',H',J,rv,q⟩:=hs;exact fin J rv q
 | next=>
  obtain⟨σ',H',J,q⟩:=hs;exact fin (v:=V.non) (u:=Value.none) J rfl q
 | brk=>
  obtain⟨_,_,_,q⟩:=hs;exact False.elim q
 | cont=>
  obtain⟨_,_,_,q⟩:=hs;exact False.elim q
section
variable {X:Cx}{k:Nat}{f:Addr}{fd:FuncData}{ps:List Str}{sp:Sp}{W:St→XK}{x:Str}{p pos:Pos}{e:Expr}{es:List Expr}{t:TA}
theorem zi1 {pins:List (Addr×Obj)}{σ:St}{H:Hp}{s:Shared}{Q:VK}{us:List Value}{vs:List V}(F:zbK X.prog X.w X.K X.mg X.base k f fd ps sp)(hr:zaE k X.A)(hb:zaD X.K fd ps [])(hx:za6 X W)
  (I:Inv X pins σ H s)(r:zac vs us)(hA:HdA X.A H)(h:sp vs H Q (W σ)):wpAny (model X.prog X.w) X.A (call (.ref f) us) (EP X pins σ Q) X.xe s:=by
 have hl:us.length=ps.length:=by rw[← r.length]; exact F.len _ _ _ _ h
 have hb':=hb s us I.kIn (by rw[Vau]; exact hl);rw[Vau] at hb';refine wpAny_call (codeAny_mono (F.run X.A X.stack s H ⟨us,[]⟩ us vs Q (W σ) hr hA I.env0 hb' r h) λz s' hq=>?_);cases z with
 | error ev=>exact hx pins σ H s ev s' I hq
 | ok fl=>
  cases fl with
  | ret u=>exact I.after hq
  | _=>exact False.elim hq
theorem zhd (F:zbK X.prog X.w X.K X.mg X.base k f fd ps sp)(hr:zaE k X.A)(hg:Gl X x)(hm:X.mg x=some (.ref f))(hk:PySem.W.keepIn X.K (.ref f)=true)(hb:zaD X.K fd ps [])(hx:za6 X W)
  (ha:PA X (e::es) t)(hdb:(x==("__debug__":Str))=false)(he:starEach (e::es) X.env=(false,eval e X.env)::starEach es X.env)(hpl:(backTo pos (starEach es X.env)).any (·.1)=false):
  PE X (.Call (.Name x p) (e::es) [] pos) (λσ H Q=>t σ H λvs H1=>HdA X.A H1∧sp vs H1 Q (W σ)):=by
 intro pins s σ H Q I h;refine wpAny_Call_Name_kw (zbW I hg hm ?_ hdb);exact PySem.W.callWith_K (h₀:=X.base) I.ok.mod.kin hk (thn (ha pos pins s σ H _ I h) λus s1 ⟨vs,H1,I1,r,q⟩=>⟨I1.kIn,zi1 F hr hb hx I1 r q.1 q.2⟩) he hpl
end
def zgq (sd:Sd)(t:TDA):TDE:=λdl S Q=>t dl S λds S1=>sd ds S1 Q λ_ _=>False
section
variable {X:Cx}{Z:Zx}{x:Str}{p pos:Pos}{e:Expr}{es:List Expr}{t:TDA}
theorem ziX:za6 X (λ_ _ _ _=>False):=λ_ _ _ _ _ _ _ ⟨_,_,_,_,_,_,_,_,_,_,_,_,q⟩=>q.elim
theorem zkj {k:Nat}{f:Addr}{fd:FuncData}{ps:List Str}{sd:Sd}(F:zbK X.prog X.w X.K X.mg X.base k f fd ps (upF X.K sd))(hr:zaE k X.A)(hg:Gl X x)(hm:X.mg x=some (.ref f))(hk:PySem.W.keepIn X.K (.ref f)=true)
  (hb:zaD X.K fd ps [])(hA:∀ {r S H dl σ},Rel X.K Z r S H→Rs r H dl σ→HdA X.A H)(ha:PDA X Z (e::es) t)(hdb:(x==("__debug__":Str))=false:=by decide)
  (he:starEach (e::es) X.env=(false,eval e X.env)::starEach es X.env:=by rfl)(hpl:(backTo pos (starEach es X.env)).any (·.1)=false:=by rfl):PD X Z (.Call (.Name x p) (e::es) [] pos) (zgq sd t):=
 zay (zhd F hr hg hm hk hb ziX ha hdb he hpl) λσ H Qv ⟨r,dl,S,Q,rs,rel,h,ret⟩=>⟨r,dl,S,_,rs,rel,h,λvs H1 r1 ds S1 e1 rel1 p1 h1=>
  ⟨hA rel1 (rs.ext e1),λ_ _=>False,r1,S1,ds,Q,⟨rel1.b,λ_ _ _ _ _ _ _ _ _ z=>z.elim⟩,p1,h1,λv H2 r2 d S2 x2 rel2 p2 q2=>ret v H2 r2 d S2 (e1.trans x2) ⟨rel2.b,rel1.xw.ext x2⟩ p2 q2⟩⟩
end
section
variable {P:Program}{w:World}{K:PySem.W.Frag}{mg:Str→Option Value}{base:Heap}
theorem zga {x qual:Str}{st:Stmt}{f:Addr}{fd:FuncData}{N ps:List Str}{k:Nat}{sd:Sd}(F:Fun K x qual st f fd)(Sc:zau N ps (zak st))(len:∀ds S Q ex,sd ds S Q ex→ds.length=ps.length)
  (hbody:∀(cdv:Value) (A:Around) (outer:List Env) (s:Shared) (H:Hp) (E:XK),zaE k (A.deeper (envOfC qual (zak st) s.heap.objs.size f cdv))→
   ∃t,zaZ (cxN P w K mg base N qual (zak st) f cdv A outer s H E).nox (ZH A) (zaW st) t∧∀ds S Q ex,sd ds S Q ex→t { nx:=λ_ S'=>Q .non S',rt:=Q } (za3 N ds) S):zbK P w K mg base (k+1) f fd ps (upF K sd):=by
 obtain⟨oc,od,kV,doc,pm,an,cdv,ct,osl,rfl,lk,hcd⟩:=F.ex;refine zji lk hcd Sc (λvs H Q E h=>?_) λA outer s H vs Q E hr hA h=>?_
 ·obtain⟨ex,r,S,ds,Q',rel,p,q,ret⟩:=h;rw[← p.1];exact len ds S Q' ex q
 ·obtain⟨ex,r,S,ds,Q',rel,p,q,ret⟩:=h;obtain⟨t,ht,hq⟩:=hbody cdv A outer s H E hr;have back:∀ {H':Hp} {r':List Addr} {S':Sto},Ext r r' H H'→Rel K (ZH A) r' S' H'→Rel K (Zc ex E) r' S' H':=λx rel'=>⟨rel'.b,rel.xw.ext x⟩
  refine⟨upS K (ZH A) t,ht.nox,r,za3 N ds,S,_,zeW p,⟨rel.b,λ_ _ _ _ _ _ x' _ _ _=>hA.ext x'⟩,hq ds S Q' ex q,?_,?_,?_,?_⟩
  ·intro σ' H' r' dl' S' x _ rel' z;exact ret .non H' r' .non S' x (back x rel') .non z
  ·intro σ' H' r' dl' S' x _ rel' z;exact z
  ·intro σ' H' r' dl' S' x _ rel' z;exact z
  ·intro v H' r' d S' x rel' p' z;exact ret v H' r' d S' x (back x rel') p' z
end
structure FkH (P:Program)(w:World)(K:PySem.W.Frag)(mg:Str→Option Value)(base:Heap)(k:Nat)(x:Str)(ps:List Str)(sd:Sd) where
 f:Addr
 fd:FuncData
 ok:zbK P w K mg base k f fd ps (upF K sd)
 m:mg x=some (.ref f)
 kp:PySem.W.keepIn K (.ref f)=true
 b:zaD K fd ps []
def Df.mkH {P:Program}{w:World}{K:PySem.W.Frag}{mg:Str→Option Value}{base:Heap}{k:Nat}{x:Str}{st:Stmt}{ps:List Str}{sd:Sd}(d:Df K mg x st ps)(h:zbK P w K mg base k d.f d.fd ps (upF K sd)):FkH P w K mg base k x ps sd:=
 ⟨d.f,d.fd,h,d.m,d.F.kp,d.b⟩
theorem zeI {X:Cx}{x:Str}{p pos:Pos}{e:Expr}{es:List Expr}{t:TDA}{k:Nat}{ps:List Str}{sd:Sd}{Z:Zx}(G:FkH X.prog X.w X.K X.mg X.base k x ps sd)(hr:zaE k X.A)(hA:∀ {r S H dl σ},Rel X.K Z r S H→Rs r H dl σ→HdA X.A H)(hg:Gl X x)(ha:PDA X Z (e::es) t)
  (hdb:(x==("__debug__":Str))=false:=by decide)(he:starEach (e::es) X.env=(false,eval e X.env)::starEach es X.env:=by rfl)(hpl:(backTo pos (starEach es X.env)).any (·.1)=false:=by rfl):
  PD X Z (.Call (.Name x p) (e::es) [] pos) (zgq sd t):=zkj G.ok hr hg G.m G.kp G.b hA ha hdb he hpl
section
open PySem.W Builtin Builtin.ObjectAttr
variable {prog:Program}{w:World}{A:Around}{E:Value→Shared→Prop}{s:Shared}{K:Frag}{x C:Addr}{name:Str}
def zeh (K:Frag)(C:Addr):Bool:=(clsIn K C).any λcd=>match cd.mro with
 | [.ref _,.ref _,.type a,.type b,.type c,.type d]=>a == "ValueError"&&b == "Exception"&&c == "BaseException"&&d == "object"
 | _=>false
theorem zjQ (self:Value)(a b:Addr):refuseLoop self "__setattr__" [.ref a,.ref b,.type "ValueError",.type "Exception",.type "BaseException",.type "object"]=pure ():=by
 rw[refuseLoop_ref,refuseLoop_ref]
 kernel_rfl
theorem zjf {v:Value}{vs:Array Value}{sl:Array (Option Value)}{Q:Unit→Shared→Prop}(X:K.In s.heap)(hx:s.heap.get? x=some ⟨.ref C,none,.fields vs,sl⟩)(hs:findIn K (.ref C) "__setattr__"=some (some (.builtin "object.__setattr__")))
  (hp:zeh K C=true)(ha:findIn K (.ref C) name=some none)(hh:hasDictIn K C=true)
  (h:∀h' d,h'.get? x=some ⟨.ref C,some d,.fields vs,sl⟩→h'.Ns1 d (λy=>if y=name then some v else none)→s.heap.objs.size≤d→(∀b o,b≠x→s.heap.get? b=some o→h'.get? b=some o)→Q () { s with heap:=h',toks:=s.toks+2 }):
  wpAny (model prog w) A (setAttr (.ref x) name v) Q E s:=by
 have J:InstAt s.heap x ⟨.ref C,none,.fields vs,sl⟩ C none:=⟨hx,rfl,rfl,trivial⟩;refine set_plain X J hs ?_;have SF:=PySem.F.store_object;obtain⟨cd,hc,ho⟩:=any_some hp;have em:∃a b,cd.mro=[.ref a,.ref b,.type "ValueError",.type "Exception",.type "BaseException",.type "object"]:=by
  split at ho
  ·rename_i a b c1 c2 c3 c4 e;simp only[Vak,beq_iff_eq] at ho;obtain⟨⟨⟨rfl,rfl⟩,rfl⟩,rfl⟩:=ho;exact⟨a,b,e⟩
  ·cases ho
 obtain⟨m1,m2,em⟩:=em;have sub:Looks (model prog w) s.heap (isInstance (.ref x) (.type "object")) true:=J.type.andThen (looks_mroIn X (by unfold mroIn; rw[hc,Option.bind_some,em]; rfl));refine codeAny_call_builtin SF.slot.plain SF.entry (@check_slot (model prog w) _ _ { s with toks:=s.toks+1 } "object.__setattr__" "object" "__setattr__" (.ref x) [.str name s.toks,v] [] _ SF.kind SF.split sub (SF.args (.ref x) (.str name s.toks) v) ?_);have hm:Looks (model prog w) s.heap (mroOf (.ref C)) cd.mro:=(looks_clsIn X hc).andThen .now;rw[osa_eq,refuse_eq];refine wpAny_bind (wpAny_bind (Looks.here (s:={ s with toks:=s.toks+1 }) J.type (wpAny_bind (Looks.here (s:={ s with toks:=s.toks+1 }) hm ?_))));rw[em,zjQ];refine wpAny_pure (wpAny_bind (Looks.here (s:={ s with toks:=s.toks+1 }) J.type (wpAny_bind (Looks.here (s:={ s with toks:=s.toks+1 }) (looks_findIn X ha) (wpAny_bind (wpAny_pure ?_))))));obtain⟨cd',hc',hd'⟩:=any_some hh;show wpAny _ _ (storeInOwnDict (.ref x) (.ref C) (.str name s.toks) name v false) _ _ _;unfold storeInOwnDict;refine wpAny_bind (wpAny_pure ?_);rw[if_neg (by simp)];refine wpAny_bind ?_;unfold ownDictForStores instanceDict;refine wpAny_bind (wpAny_loadPart hx ?_);dsimp only;refine wpAny_bind (Looks.here (s:={ s with toks:=s.toks+1 }) (looks_clsIn X hc') ?_);rw[hd'];rw[if_neg (by decide),if_neg (by unfold typeHasDict; simp)];refine wpAny_bind (wpAny_alloc ?_);have hx1:=Heap.get?_push_of_some (h:=s.heap) { cls:=.type "dict",data:=.dict #[] } hx;refine wpAny_bind (wpAny_update hx1 ?_);refine wpAny_pure ?_;dsimp only;unfold storeInDict;refine wpAny_bind (wpAny_pure (wpAny_bind ?_));have ne:x≠s.heap.objs.size:=Vab (Heap.lt_size hx)
 have e1:(s.heap.push { cls:=.type "dict",data:=.dict #[] }).get? s.heap.objs.size=some { cls:=.type "dict",data:=.dict #[] }:=Heap.get?_push_size _ rfl
 have n0:((s.heap.push { cls:=.type "dict",data:=.dict #[] }).update x λo=>{ cls:=o.cls,dict:=some s.heap.objs.size,data:=o.data,slots:=o.slots }).Ns1 s.heap.objs.size (λ_=>none):=
  Heap.Ns1.of_empty ⟨_,_,_,(Heap.get?_update_other _ _ ne).trans e1,rfl,λy hy=>by simp at hy,λ_=>rfl⟩
 have ex:((s.heap.push { cls:=.type "dict",data:=.dict #[] }).update x λo=>{ cls:=o.cls,dict:=some s.heap.objs.size,data:=o.data,slots:=o.slots }).get? x=some ⟨.ref C,some s.heap.objs.size,.fields vs,sl⟩:=Heap.get?_update_self _ hx1 rfl;refine wpAny_nsSet1 n0 λh' hn2 hs2=>?_
 obtain⟨oD,esD,epD,hoD,hdD,hcD⟩:=hn2.count (PySem.Within.cons name v PySem.Within.nil);refine wpAny_bind (wpAny_lookBehind hoD (by rw[hdD]; exact pastItsLine_dict (Vam hcD (Nat.le_add_left 1 _))) ?_);refine wpAny_pure (h _ s.heap.objs.size ((hs2.2 _ ne).trans ex) hn2 (Vac _) λb o hb e=>?_);exact(hs2.2 b (Vab (Heap.lt_size e))).trans ((Heap.get?_update_other _ _ (Ne.symm hb)).trans (Heap.get?_push_of_some _ e))
theorem zjw {v:Value}{ox od:Obj}{Q:Value→Shared→Prop}(X:K.In s.heap)(I:InstAt s.heap x ox C (some od))(hga:findIn K (.ref C) "__getattribute__"=some (some (.builtin "BaseException.__getattribute__")))(hk:findIn K (.ref C) "__getattr__"=some none)
  (hb:mroIn K C (.type "BaseException")=some true)(ha:findIn K (.ref C) name=some none)(hh:hasDictIn K C=true)(hl:lookIn name od=some (some v))(hv:handedIn v=true)(q:Q v { s with toks:=s.toks+1 }):wpAny (model prog w) A (getAttr (.ref x) name true) Q E s:=by
 have T:=I.type (M:=model prog w)
 have l3:=looks_find (M:=model prog w) X I (findObj_own hh ha rfl hl);obtain⟨h0,g0,d0,t0,o0⟩:=s;have l1:=looks_findIn (M:=model prog w) X hga
 have l2:=looks_findIn (M:=model prog w) X hk
 have l5:=looks_mroIn (M:=model prog w) X hb
 have f3:=F.excAttr_ValueError.ga.bind (.ref x);unfold getAttr getAttrBy;refine wpAny_bind (wpAny_mkText (wpAny_holding (wpAny_bind (T.at (wpAny_bind (l1.at ?_))))));dsimp only;have other:("BaseException.__getattribute__" == "object.__getattribute__")=false:=by decide +kernel
 rw[if_neg (λz=>by
  have y:=(VaN.mp z).2
  have y2:"BaseException.__getattribute__"="object.__getattribute__":=Value.builtin.inj (beq_iff_eq.mp y);rw[y2] at other;simp at other)]
 unfold getAttrByItsOwn hookBefore;refine wpAny_bind ?_
 lk
 lk
 refine wpAny_bind (wpAny_attempt ?_);refine wpAny_holding ?_;unfold callGetattribute;rw[if_neg (by decide)];unfold boundAndCalled;refine wpAny_bind (wpAny_of_eq f3 ?_);refine wpAny_call (codeAny_call_builtin F.excAttr_ValueError.ga.plain F.entry_bexc_ga ?_);have k1:builtinKind "BaseException.__getattribute__"=some .slot:=by decide +kernel
 have k2:splitId "BaseException.__getattribute__"=some ("BaseException","__getattribute__"):=by decide +kernel
 have k3:=F.args_bexc_ga (.ref x) (.str name t0)
 have li:Looks (model prog w) h0 (isInstance (.ref x) (.type "BaseException")) true:=T.andThen l5;simp only[checkBuiltinCall,k1,k2];refine wpAny_bind (li.at ?_);rw[if_neg (by decide)];have go:wpAny (model prog w) A.in1 («object.__getattribute__» ⟨[.ref x,.str name t0],[]⟩) (λfin s'=>fin=.done (.ret v)∧s'=⟨h0,g0,d0,t0+1,o0⟩) (λ_ _=>False) ⟨h0,g0,d0,t0+1,o0⟩:=by
  unfold «object.__getattribute__»;refine wpAny_bind (wpAny_pure (wpAny_bind (wpAny_pure (wpAny_bind (T.at ?_)))));refine wpAny_bind (l3.at ?_);exact wpAny_pure ⟨rfl,rfl⟩
 have step:∀ {P:Unit→Shared→Prop} {E':Value→Shared→Prop},P () ⟨h0,g0,d0,t0+1,o0⟩→wpAny (model prog w) A.in1 (match Manifest.signature? "BaseException.__getattribute__" with
   | some sig=>Bind.checkArgs "BaseException.__getattribute__" sig ⟨[.ref x]++[.str name t0],[]⟩
   | _=>pure ()) P E' ⟨h0,g0,d0,t0+1,o0⟩:=λ{P E'} hp=>by
  unfold argsOk at k3;split
  ·rename_i sig hsig;simp only[hsig] at k3;exact wpAny_of_eq k3 hp
  ·exact wpAny_pure hp
 refine step (wpAny_mono go (λfin s' z=>?_) λ_ _ z=>z.elim);obtain⟨e1,e2⟩:=z;subst e1 e2;exact handed_on hv q
end
section
variable {prog:Program}{w:World}{A:Around}{E:Value→Shared→Prop}{h:Heap}{g:Array GenState}{d:Drawn}{t:Nat}{os:OsState}
variable {nm q:Str}{C N:Addr}{bs bm bmB:List Value}{hdct:Bool}{sn:List Str}{sub:List Value}{ab:Bool}{col:Option Bool}{dd:Option Addr}{k0 k1 k2 k3 k5:Option Value}{B newId initId:String}
theorem zjW (F:ExcBaseFacts B newId initId bmB)(T:OwnTail h bmB bm){mN:Str→Option Value}{us:List Value}{fI:Addr}{oI:Obj}{Q:Fin→Shared→Prop}
  (oC:h.get? C=some (excClassObj nm q C N bs bm hdct sn sub ab col dd k0 k1 k2 k3 k5 newId))(hn:h.Ns N mN)(hi:mN "__init__"=some (.ref fI))(hf:h.get? fI=some oI)(hfc:oI.cls=.type "function")
  (hq:∀h' e,h.objs.size≤e→Heap.MadeExcOf h h' e (.ref C) us→wpAny (model prog w) A (call (.ref fI) (.ref e::us)) (λr s'=>r=.none∧Q (.done (.ret (.ref e))) s') E ⟨h',g,d,t,os⟩)(hl:us.length≤sizeLine):
  wpAny (model prog w) A (Builtin.«type.__call__» ⟨.ref C::us,[]⟩) Q E ⟨h,g,d,t,os⟩:=by
 repeat (first | with_reducible refine wpAny_loadPart_at oC ?_ | with_reducible refine wpAny_madeBy_exc oC ?_ | wp_step)
 refine codeAny_call_builtin_code (Code.quiet_builtin _ F.quiet) (wpAny_check_new_subT F T oC (codeAny_exc_new_subT F T oC ?_ hl));show wpAny _ _ _ _ _ _;generalize e1:(h.push { cls:=.type "tuple",data:=.seq us.toArray })=h1;have up1:∀b o,h.get? b=some o→h1.get? b=some o:=λb o z=>by rw[← e1]; exact Heap.get?_push_of_some _ z
 have sz1:h1.objs.size=h.objs.size+1:=by rw[← e1]; exact Heap.size_push _ _
 have tup1:h1.get? h.objs.size=some { cls:=.type "tuple",data:=.seq us.toArray }:=by rw[← e1]; exact Heap.get?_push_size _ rfl
 generalize e2:(h1.push { cls:=.ref C,data:=.fields #[.ref h.objs.size,.none,.none,.none,.bool false,.none] })=h2;have up2:∀b o,h1.get? b=some o→h2.get? b=some o:=λb o z=>by rw[← e2]; exact Heap.get?_push_of_some _ z
 have got:h2.get? (h.objs.size+1)=some { cls:=.ref C,data:=.fields #[.ref h.objs.size,.none,.none,.none,.bool false,.none] }:=by rw[← e2,← sz1]; exact Heap.get?_push_size _ rfl
 have up:∀b o,h.get? b=some o→h2.get? b=some o:=λb o z=>up2 b o (up1 b o z)
 have C2:=up _ _ oC
 have N2:h2.Ns N mN:=hn.keeps up
 have own:(Value.ref C::bm).contains (.ref C)=true:=by simp
 unfold isInstance
 repeat (first | with_reducible refine wpAny_loadPart_at got ?_ | (with_reducible refine wpAny_isSubtype_exc C2 ?_; rw[own]) | wp_step)
 show wpAny _ _ (typeLookup (.ref C) _) _ _ _;refine wpAny_typeLookup_tail C2 N2 (T.keeps up) F.mroIs F.init.lookup ?_;rw[hi];refine wpAny_holding (wpAny_bind ?_);unfold bindSpecial;refine wpAny_bind (wpAny_typeOf (T:="function") ⟨_,up _ _ hf,hfc⟩ ?_);rw[if_pos (by decide)];refine wpAny_pure (wpAny_bind (wpAny_mono (hq h2 (h.objs.size+1) (VaI _) ⟨up,Heap.get?_none_of_le (VaI _),h.objs.size,got,Heap.get?_none_of_le (Vac _),up2 _ _ tup1⟩) (λr s' hr=>?_) λ_ _ x=>x));obtain⟨rfl,hQ⟩:=hr
 wp_walk
 exact hQ
theorem zje (F:ExcBaseFacts B newId initId bmB)(T:OwnTail h bmB bm){mN:Str→Option Value}{us:List Value}{fI:Addr}{oI:Obj}{Q:Value→Shared→Prop}
  (oC:h.get? C=some (excClassObj nm q C N bs bm hdct sn sub ab col dd k0 k1 k2 k3 k5 newId))(hn:h.Ns N mN)(hi:mN "__init__"=some (.ref fI))(hf:h.get? fI=some oI)(hfc:oI.cls=.type "function")
  (hq:∀h' e,h.objs.size≤e→Heap.MadeExcOf h h' e (.ref C) us→wpAny (model prog w) (A.under (.builtin "type.__call__" ⟨.ref C::us,[]⟩)) (call (.ref fI) (.ref e::us)) (λr s'=>r=.none∧Q (.ref e) s') E ⟨h',g,d,t,os⟩)(hl:us.length≤sizeLine):
  wpAny (model prog w) A (call (.ref C) us) Q E ⟨h,g,d,t,os⟩:=by
 have l1:=tc_lookup
 have l2:=tc_bind (.ref C)
 have hT:(⟨h,g,d,t,os⟩:Shared).TypeIs (.ref C) "type":=⟨_,oC,rfl⟩;refine wpAny_call (codeAny_of_tree ?_);show wpAny _ _ (callAny (.ref C) _) _ _ _
 repeat (any_goals (first | assumption | with_reducible refine wpAny_loadPart_at oC ?_ | wp_step))
 exact⟨rfl,codeAny_call_builtin_at (Code.quiet_builtin _ (by decide +kernel)) entry_typeCall (wpAny_check_type_call_sub oC (zjW F T oC hn hi hf hfc hq hl))⟩
end
def excW (K:PySem.W.Frag)(C:Addr)(bmB:List Value)(nid:String)(f:Addr):Bool:=match K.lookup C with
 | some ⟨.type "type",_,.cls cd,sl⟩=>(match cd.mro,sl.toList with
  | .ref C'::bm,[_,_,_,_,some (.builtin n),_]=>C'==C&&n==nid&&!cd.hasDel&&PySem.W.tailIn K bmB bm&&PySem.W.nsOkIn K cd.ns&&PySem.W.nsIn K cd.ns "__init__"==some (some (.ref f))
  | _,_=>false)
 | _=>false
structure Wx (K:PySem.W.Frag)(mg:Str→Option Value)(x:Str)(C f:Addr)(bm:List Value)(nid:String):Prop where
 bound:mg x=some (.ref C)
 kp:PySem.W.keepIn K (.ref C)=true
 ex:excW K C bm nid f=true
 fn:PySem.W.isFn K (.ref f)=true
 sa:PySem.W.findIn K (.ref C) "__setattr__"=some (some (.builtin "object.__setattr__"))
 tw:zeh K C=true
 hd:PySem.W.hasDictIn K C=true
 na:PySem.W.findIn K (.ref C) "word"=some none
 nx:Nx K C
theorem zj8 {K:PySem.W.Frag}{h:Heap}{N:Addr}{mN:Str→Option Value}{n:Str}{v:Value}(X:K.In h)(G:h.Ns N mN)(e:PySem.W.nsIn K N n=some (some v)):mN n=some v:=by
 obtain⟨o,es,ep,ho,hd,_,hf⟩:=G;unfold PySem.W.nsIn at e;split at e
 case h_2=>cases e
 case h_1 q=>
  have z:=X _ _ q;rw[ho] at z;cases z;cases hd;split at e
  case h_1 en he=>
   cases e;rw[← hf n];unfold nsFind findBy;rw[← Array.find?_toList,he];rfl
  case h_2=>split at e <;> cases e
theorem zjB {K:PySem.W.Frag}{mg:Str→Option Value}{x:Str}{C f:Addr}{bmB:List Value}{nid:String}{h:Heap}(c:Wx K mg x C f bmB nid)(KX:K.In h):
  ∃bm N nm q bs hdct sn sub ab col dd k0 k1 k2 k3 k5 mN,h.get? C=some (excClassObj nm q C N bs bm hdct sn sub ab col dd k0 k1 k2 k3 k5 nid)∧h.Ns N mN∧mN "__init__"=some (.ref f)∧OwnTail h bmB bm:=by
 have q:=c.ex
 revert q
 unfold excW;intro q;split at q
 case h_2=>cases q
 case h_1 dd cd sl look=>
  split at q
  case h_2=>cases q
  case h_1 C1 zaz z0 z1 z2 z3 nn z5 em es=>
   rw[Vak,Vak,Vak,Vak,Vak] at q;obtain⟨⟨⟨⟨⟨q1,q2⟩,q3⟩,q4⟩,q5⟩,q6⟩:=q;have r1:=beq_iff_eq.mp q1
   have r2:=beq_iff_eq.mp q2
   have r6:=beq_iff_eq.mp q6;cases cd with
   | mk a1 a2 a3 a4 a5 a6 a7 a8 a9 a10 a11=>
    have em':a3=Value.ref C1::zaz:=em
    have r3:a11=false:=by simpa using q3
    have hsl:sl=#[z0,z1,z2,z3,some (Value.builtin nn),z5]:=by
     cases sl with
     | mk l=>exact congrArg Array.mk es
    subst r1 r2 em' r3 hsl;exact⟨zaz,a4,a1,a5,a2,a6,a7,a8,a9,a10,dd,z0,z1,z2,z3,z5,_,KX _ _ look,Heap.Ns.of_isNs (PySem.W.isNs_of_in KX q5),zj8 KX (Heap.Ns.of_isNs (PySem.W.isNs_of_in KX q5)) r6,PySem.W.tail_of_in KX q4⟩
theorem fn_at {K:PySem.W.Frag}{h:Heap}{f:Addr}(X:K.In h)(e:PySem.W.isFn K (.ref f)=true):∃o,h.get? f=some o∧o.cls=.type "function":=by
 have z:=beq_iff_eq.mp e;unfold PySem.W.typeIn at z;obtain⟨o,h1,h2⟩:=Vay.mp z;exact⟨o,X _ _ h1,h2⟩
section
variable {X:Cx}{pins:List (Addr×Obj)}{σ:St}{H:Hp}{s:Shared}
theorem Inv.track {d:Addr}{o:HO}(I:Inv X pins σ H s)(h0:X.s₀.heap.objs.size≤d)(hn:H d=none)(hL:X.env.locals≠d)(hC:∀x c,X.env.cells.lookup x=some c→c≠d)(hp:∀p∈X.pn++pins,p.1≠d)
  (new:zaC X.prog X.w (upd H d o) s.heap d o):Inv X pins σ (upd H d o) s:=by
 have old:∀ {b:Addr} {ob:Obj},X.s₀.heap.get? b=some ob→b≠d:=λe=>Vab (Vaa (Heap.lt_size e) h0)
 refine⟨I.ok,I.os,I.bare,⟨I.base.keep,I.base.slot,λb o e n hx=>by rw[zah (old e)]; exact I.base.free b o e n hx,I.base.there,λb xs e=>?_,λb ob u e=>?_,λb ps e=>?_⟩,I.loc,I.cell,by rw[zah hL]; exact I.free,λx c e=>by rw[zah (hC x c e)]; exact I.freeC x c e,λp h=>?_,λb u e=>?_,I.len⟩
 ·have z:=I.base.tups b xs e;rw[zah (zaG z hn)]; exact z
 ·have z:=I.base.frzs b ob u e;rw[zah (zaG z hn)]; exact z
 ·obtain⟨m,z⟩:=I.base.tbls b ps e;exact⟨m,by rw[zah (zaG z hn)]; exact z⟩
 ·obtain⟨p1,p2,p3⟩:=I.pin p h;exact⟨p1,by rw[zah (hp p h)]; exact p2,p3⟩
 ·by_cases hb:b=d
  ·subst hb;rw[zaI] at e;cases e;exact new
  ·rw[zah hb] at e;exact(I.hok b u e).stay (λ_ _ _ z=>z) (λc z=>by rw[zah (zaG z hn)]; exact z) λc xs z=>by rw[zah (zaG z hn)]; exact z
end
def sWord (C:Addr)(ta tv:TE):TS:=λD σ H=>tv σ H λy H1=>ta σ H1 λx H2=>∃a z,x=.ref a∧y=.str z∧H2 a=some (isN a C)∧∀dx,H2 dx=none→dx≠a→D.nx σ (upd (upd H2 a (isW a C dx)) dx (isD dx z))
section
variable {X:Cx}
theorem zhw {x:Str}{C f:Addr}{bm:List Value}{nid:String}{o value:Expr}{ta tv:TE}{pos pos':Pos}(c:Wx X.K X.mg x C f bm nid)(ha:PE X o ta)(hv:PE X value tv)(hs:swapsWith value (some (.Attribute o "word" pos')) pos.line X.env=pure false:=by rfl):
  PS X (.Assign [.Attribute o "word" pos'] value pos) (sWord C ta tv):=by
 intro pins s σ H D I h;refine plainObj_wpAny_Assign_Attribute (thn (hv pins s σ H _ I h) λu s1 ⟨y,H1,I1,ry,q⟩=>thn (ha pins s1 σ H1 _ I1 q) λov s2 ⟨x,H2,I2,rx,a,z,ex,ey,ea,q2⟩=>?_) hs;subst ex;subst ey;obtain rfl:ov=Value.ref a:=rx;obtain⟨t,rfl⟩:=(show ∃t,u=Value.str z t from ry);obtain⟨vs,sl,hx,h2⟩:=(I2.hok a _ ea).1;refine zjf I2.kIn hx c.sa c.tw c.na c.hd λh' d hx' hn hd keep=>?_
 have ne:d≠a:=λz=>by rw[z] at hd; exact absurd (Heap.lt_size hx) (VaU.mpr hd)
 have new0:∀ {b:Addr} {ob:Obj},s2.heap.get? b=some ob→b≠d:=λe=>Vab (Vaa (Heap.lt_size e) hd)
 have hHd:H2 d=none:=I2.hok.fresh hd
 have I3:Inv X pins σ (upd H2 a (isW a C d)) { s2 with heap:=h',toks:=s2.toks+2 }:=I2.write (x:=a) (e:=a) (by rw[ea]; exact True.intro) (.inl rfl) (λb u hb e=>keep b u hb e) ⟨_,hx'⟩
  ⟨⟨_,hx',rfl,h2,rfl,rfl⟩,⟨_,hx'⟩,λh1 h2 ⟨o,q1,q2⟩ k=>⟨o,k o q1,q2⟩⟩
 refine⟨σ,_,Inv.track (d:=d) (o:=isD d z) I3 (Vam I2.sz hd) (by rw[zah ne]; exact hHd) (Vab (Vaa I2.lt hd)) (λx c e=>?_) (λp hp=>new0 (I2.pin p hp).1) ?_,q2 d hHd ne⟩
 ·obtain⟨v,o,e1,_⟩:=I2.cell x c e;exact new0 e1
 ·refine⟨⟨_,t,hn,by simp⟩,?_,λh1 h2 ⟨mA,t,q1,q2⟩ k=>⟨mA,t,q1.at k,q2⟩⟩;obtain⟨o,_,_,e,_⟩:=hn;exact⟨o,e⟩
end
def spI (C:Addr):Sp:=λvs H Q _=>∃a z,vs=[.ref a,.str z]∧H a=some (isN a C)∧∀dx,H dx=none→dx≠a→Q .non (upd (upd H a (isW a C dx)) dx (isD dx z))
section
variable {X:Cx}{x:Str}{C f:Addr}{bm:List Value}{nid inid B:String}{fd:FuncData}{ps:List Str}{k:Nat}
theorem zjA {pins:List (Addr×Obj)}{σ:St}{H:Hp}{s:Shared}{Q:VK}{z:Str}{t:Tok}(c:Wx X.K X.mg x C f bm nid)(FB:ExcBaseFacts B nid inid bm)(F:zas X.prog X.w X.K X.mg X.base (CXE X.prog X.w) k f fd ps (spI C))(hr:zan (k+1) X.A)(hb:zaD X.K fd ps [])
  (I:Inv X pins σ H s)(h:∀a dx,H a=none→H dx=none→dx≠a→Q (.ref a) (upd (upd H a (isW a C dx)) dx (isD dx z))):wpAny (model X.prog X.w) X.A (call (.ref C) [.str z t]) (EP X pins σ Q) X.xe s:=by
 obtain⟨bm',N,nm,q,bs,hdct,sn,sub,ab,col,dd,k0,k1,k2,k3,k5,mN,hC,hN,hi,T⟩:=zjB c I.kIn;obtain⟨oI,hf,hfc⟩:=fn_at I.kIn c.fn;obtain⟨h0,g0,d0,t0,o0⟩:=s;refine zje FB T hC hN hi hf hfc (λh' e hs hm=>?_) (by show 1≤sizeLine; rw[sizeLine_eq]; decide);obtain⟨ta,he,_,_⟩:=hm.there;have I2:Inv X pins σ (upd H e (isN e C)) ⟨h',g0,d0,t0,o0⟩:=I.laid (a:=e) (o:=isN e C) (h':=h') (t':=t0) hm.keeps hs ⟨⟨_,_,he,rfl⟩,⟨_,he⟩,λh1 h2 ⟨vs,sl,q1,q2⟩ k=>⟨vs,sl,k _ q1,q2⟩⟩
 have hHe:H e=none:=I.hok.fresh hs
 have r2:zac [V.ref e,V.str z] [Value.ref e,Value.str z t]:=.cons rfl (.cons ⟨t,rfl⟩ .nil)
 have hq:spI C [V.ref e,V.str z] (upd H e (isN e C)) (λv H2=>v=.non∧Q (.ref e) H2) (λ_ _ _=>False):=⟨e,z,rfl,zaI,λdx n1 n2=>⟨rfl,by
  rw[zfS];exact h e dx hHe (by rw[zah n2] at n1; exact n1) n2⟩⟩
 have hl:[Value.ref e,Value.str z t].length=ps.length:=by rw[← F.len _ _ _ _ hq]; rfl
 have hb':=hb ⟨h',g0,d0,t0,o0⟩ [Value.ref e,Value.str z t] I2.kIn (by rw[Vau]; exact hl);rw[Vau] at hb';refine wpAny_call (codeAny_mono (F.run _ X.stack _ _ ⟨[Value.ref e,Value.str z t],[]⟩ [Value.ref e,Value.str z t] _ _ _ (hr.make C [.str z t] []) (I2.env0.make C [.str z t] []) hb' r2 hq) λr s' hq'=>?_);cases r with
 | error ev=>
  obtain⟨_,_,_,_,_,_,_,_,_,_,_,_,z⟩:=hq';exact z.elim
 | ok fl=>
  cases fl with
  | ret u=>
   obtain⟨v,H',I3,rv,ev,q3⟩:=I2.after hq';subst ev;exact⟨rv,⟨V.ref e,H',I3,rfl,q3⟩⟩
  | next=>exact False.elim hq'
  | brk=>exact False.elim hq'
  | cont=>exact False.elim hq'
theorem zin {p pos:Pos}{e:Expr}{ta:TA}(c:Wx X.K X.mg x C f bm nid)(FB:ExcBaseFacts B nid inid bm)(F:zas X.prog X.w X.K X.mg X.base (CXE X.prog X.w) k f fd ps (spI C))(hr:zan (k+1) X.A)(hg:Gl X x)(hb:zaD X.K fd ps [])
  (ha:PA X [e] ta)(hdb:(x==("__debug__":Str))=false)(he:starEach [e] X.env=(false,eval e X.env)::starEach [] X.env)(hpl:(backTo pos (starEach [] X.env)).any (·.1)=false):
  PE X (.Call (.Name x p) [e] [] pos) (λσ H Q=>ta σ H λvs H1=>∃z,vs=[.str z]∧∀a dx,H1 a=none→H1 dx=none→dx≠a→Q (.ref a) (upd (upd H1 a (isW a C dx)) dx (isD dx z))):=by
 intro pins s σ H Q I h;refine wpAny_Call_Name_kw (zbW I hg c.bound ?_ hdb);refine PySem.W.callWith_K (h₀:=X.base) I.ok.mod.kin c.kp (thn (ha pos pins s σ H _ I h) λus s1 ⟨vs,H1,I1,r,q⟩=>⟨I1.kIn,?_⟩) he hpl;obtain⟨z,ev,q⟩:=q;subst ev;cases r with
 | cons r rr=>
  cases rr;obtain⟨t,rfl⟩:=(show ∃t,_=Value.str z t from r);exact zjA c FB F hr hb I1 q
def dWord (C:Addr)(ta:TDA):TDE:=λdl S Q=>ta dl S λds S1=>match ds with
 | [.str z]=>Q (.xw C z) S1
 | _=>False
theorem zhE {Z:Zx}{p pos:Pos}{e:Expr}{ta:TDA}(c:Wx X.K X.mg x C f bm nid)(FB:ExcBaseFacts B nid inid bm)(F:zas X.prog X.w X.K X.mg X.base (CXE X.prog X.w) k f fd ps (spI C))(hr:zan (k+1) X.A)(hg:Gl X x)(hb:zaD X.K fd ps [])
  (ha:PDA X Z [e] ta)(hdb:(x==("__debug__":Str))=false:=by decide)(he:starEach [e] X.env=(false,eval e X.env)::starEach [] X.env:=by rfl)(hpl:(backTo pos (starEach [] X.env)).any (·.1)=false:=by rfl):
  PD X Z (.Call (.Name x p) [e] [] pos) (dWord C ta):=
 zay (zin c FB F hr hg hb ha hdb he hpl) λσ H Qv ⟨r,dl,S,Q,rs,rel,h,ret⟩=>⟨r,dl,S,_,rs,rel,h,λvs H1 r1 ds S1 x1 rel1 p1 q1=>by
  split at q1
  ·rename_i z;obtain⟨v,vs',rfl,p2,p3⟩:=p1.uncons;have e0:=p3.unnil;subst e0;cases p2;refine⟨z,rfl,λa dx n1 n2 ne=>?_⟩;have n3:upd H1 a (isW a C dx) dx=none:=by rw[zah ne]; exact n2
   have x2:Ext r1 r1 H1 (upd (upd H1 a (isW a C dx)) dx (isD dx z)):=(zfa n1).trans (zfa n3);exact ret _ _ r1 (.xw C z) S1 (x1.trans x2) ⟨(rel1.b.same (zbm n1)).same (zbm n3),rel1.xw.ext x2⟩ (.xw (by rw[zah (Ne.symm ne)]; exact zaI) zaI) q1
  ·exact q1.elim⟩
def dGetW (C:Addr)(te:TDE):TDE:=λdl S Q=>te dl S λd S1=>match d with
 | .xw c z=>c=C∧Q (.str z) S1
 | _=>False
theorem zgp {Z:Zx}{e:Expr}{te:TDE}{pos:Pos}(c:Wx X.K X.mg x C f bm nid)(ha:PD X Z e te)(hb:attributeBase e "word" X.env (eval e X.env)=eval e X.env:=by rfl):PD X Z (.Attribute e "word" pos) (dGetW C te):=by
 intro pins s σ H Qv I ⟨r,dl,S,Q,rs,rel,h,ret⟩;refine zju hb (thn (ha pins s σ H (λv H1=>∃a dx z,v=.ref a∧H1 a=some (isW a C dx)∧H1 dx=some (isD dx z)∧Qv (.str z) H1) I ⟨r,dl,S,_,rs,rel,h,λv H1 r1 d S1 x1 rel1 p1 q1=>?_⟩) λu s1 ⟨v,H1,I1,rv,a,dx,z,ev,h1,h2,q⟩=>?_)
 ·cases p1 with
  | @xw c' a dx z hx hd=>
   obtain⟨rfl,q1⟩:=q1;exact⟨a,dx,z,rfl,hx,hd,ret _ _ _ _ _ x1 rel1 (.str z) q1⟩
  | _=>exact(show False from q1).elim
 ·subst ev;obtain rfl:u=Value.ref a:=rv;obtain⟨o,e1,e2,_,e3,e4⟩:=(I1.hok a _ h1).1;obtain⟨mA,t,n1,n2⟩:=(I1.hok dx _ h2).1;obtain⟨od,e5,e6⟩:=zf8 n1;have J:PySem.W.InstAt s1.heap a o C (some od):=⟨e1,e2,e4,by rw[e3]; exact e5⟩;refine zjw I1.kIn J c.nx.ga c.nx.hk c.nx.hb c.na c.hd (v:=.str z t) (by rw[e6,n2]) rfl ⟨.str z,H1,I1.tok _,⟨t,rfl⟩,q⟩
end
section
variable {P:Program}{w:World}{K:PySem.W.Frag}{mg:Str→Option Value}{base:Heap}
theorem zj7 {x y q:Str}{C f:Addr}{bm:List Value}{nid:String}{st:Stmt}{fd:FuncData}{k:Nat}{p1 p2 p3 p4:Pos}(c:Wx K mg x C f bm nid)(F:Fun K y q st f fd)(Sc:zau ["self","word"] ["self","word"] (zak st))
  (hb:zaW st=[.Assign [.Attribute (.Name "self" p1) "word" p2] (.Name "word" p3) p4])(v1:Vis (zak st) "self")(v2:Vis (zak st) "word"):zas P w K mg base (CXE P w) (k+1) f fd ["self","word"] (spI C):=by
 obtain⟨oc,od,kV,doc,pm,an,cdv,ct,osl,rfl,lk,hcd⟩:=F.ex;refine zc8 lk hcd Sc (λvs H Q E ⟨a,z,e,_⟩=>by rw[e]; rfl) λA outer s H vs Q E hr ⟨a,z,e,h1,h2⟩=>?_
 rw[hb];refine⟨_,zfv (zhw (X:=zat (CXE P w) P w K mg base ["self","word"] q (zak st) f cdv A outer s H E) c (zc4 (i:=0) rfl v1) (zc4 (i:=1) rfl v2)),?_⟩;subst e;exact⟨.str z,rfl,.ref a,rfl,a,z,rfl,rfl,h1,λdx n1 n2=>h2 dx n1 n2⟩
end
def zaJ (K:PySem.W.Frag)(cv:Value)(l:List Addr)(c:Addr):Option Bool:=if l.contains c=true then PySem.W.kitOne K (.ref c) cv else none
theorem zbc {K:PySem.W.Frag}{cv:Value}{l:List Addr}(n:∀c∈l,Nx K c):∀c b,zaJ K cv l c=some b→PySem.W.kitOne K (.ref c) cv=some b∧Nx K c:=λc b e=>by
 unfold zaJ at e;split at e
 ·rename_i z;exact⟨e,n c (by simpa using z)⟩
 ·cases e
theorem zdM {K:PySem.W.Frag}{cv:Value}{l:List Addr}{c:Addr}{b:Bool}(h:c∈l)(e:PySem.W.kitOne K (.ref c) cv=some b):zaJ K cv l c=some b:=by
 unfold zaJ;rw[if_pos (by simpa using h)];exact e
theorem zbb {K:PySem.W.Frag}:∀c∈([]:List Addr),Nx K c:=λ_ h=>nomatch h
theorem zam {K:PySem.W.Frag}{a:Addr}{l:List Addr}(n:Nx K a)(h:∀c∈l,Nx K c):∀c∈a::l,Nx K c:=λc hc=>by
 rcases Vah.mp hc with rfl | hc
 ·exact n
 ·exact h c hc
section
variable {X:Cx}{Z:Zx}
theorem ziS {e:Expr}{te:TDE}{y:Str}{p p2 pos:Pos}{T:String}{ans:Addr→Option Bool}(hy:∀c b,ans c=some b→PySem.W.kitOne X.K (.ref c) (.type T)=some b∧Nx X.K c)(hg:Gl X "isinstance")(hm:X.mg "isinstance"=none)(hg2:Gl X y)(hm2:X.mg y=none)
  (hv2:bootBuiltins y=some (.type T))(ha:PD X Z e te)(hv:bootBuiltins "isinstance"=some (.builtin "isinstance"):=by exact PyProof.Rows.Boot.«isinstance»)
  (hn2:y≠"__name__":=by decide)(hd2:(y==("__debug__":Str))=false:=by decide)(he2:starEach [e,.Name y p2] X.env=(false,eval e X.env)::starEach [.Name y p2] X.env:=by rfl)
  (he3:starEach [.Name y p2] X.env=(false,eval (.Name y p2) X.env)::starEach [] X.env:=by rfl)(hpl:(backTo pos (starEach [.Name y p2] X.env)).any (·.1)=false:=by rfl):
  PD X Z (.Call (.Name "isinstance" p) [e,.Name y p2] [] pos) (zbg ans te):=
 zay (zd4 (zfZ (vc:=.ty T) (cv:=.type T) λu r=>r) hg hm hv (zbP ha (zbP (zgb (v:=.ty T) hg2 hm2 hv2 rfl hn2 hd2) zc7 he3) he2) (by decide) (by decide) he2 hpl) λσ H Qv h=>zgj hy h
theorem zeP {ans:Addr→Option Bool}{te:TDE}{dl:Ev}{S S1:Sto}{Q:DK}{c:Addr}{b:Bool}(h:∀K:DK,K (.exc c) S1→te dl S K)(e:ans c=some b)(q:Q (.bl b) S1):zbg ans te dl S Q:=by
 unfold zbg;refine h _ ?_;simp only[e];exact q
theorem zif {ans:Addr→Option Bool}{te:TDE}{dl:Ev}{S S1:Sto}{Q:DK}{c:Addr}{x:Str}{b:Bool}(h:∀K:DK,K (.xw c x) S1→te dl S K)(e:ans c=some b)(q:Q (.bl b) S1):zbg ans te dl S Q:=by
 unfold zbg;refine h _ ?_;simp only[e];exact q
end
def zbw (l:List Addr)(c:Addr):Bool:=l.contains c
theorem ziw {K:PySem.W.Frag}{C:Value}:∀c,zbw [] c=true→PySem.W.exmOne K (.ref c) C=some true:=λ_ e=>nomatch e
theorem zeG {K:PySem.W.Frag}{C:Value}{a:Addr}{l:List Addr}(h:PySem.W.exmOne K (.ref a) C=some true)(hr:∀c,zbw l c=true→PySem.W.exmOne K (.ref c) C=some true):∀c,zbw (a::l) c=true→PySem.W.exmOne K (.ref c) C=some true:=λc e=>by
 unfold zbw at e;rw[List.contains_cons,Va8] at e;rcases e with e | e
 ·rw[beq_iff_eq.mp e]; exact h
 ·exact hr c e
end L3
set_option Elab.async false
set_option linter.all false
set_option maxRecDepth 100000
set_option maxHeartbeats 40000000
namespace Mine
open PySem PySem.Spec PyProof.Rows L2 L3
theorem fsc {N P:List Str}{sc:Scope}(a:sc.kind=.function:=by rfl)(b:sc.isCoroutine=false:=by rfl)(c:sc.isGenerator=false:=by rfl)(d:N.Nodup:=by decide +kernel)(e:N.take P.length=P:=by rfl)(f:∀x∈P,sc.names.lookup x=some .local∨sc.names.lookup x=some .cell:=by decide +kernel)(g:∀y∈sc.names,y.2≠.free:=by decide +kernel):zau N P sc:=⟨a,b,c,d,e,f,g⟩
theorem csc {sc ar:Scope}{x:Str}{caps:List Str}(a:sc.kind=.function:=by rfl)(b:∀y∈sc.names,y.2≠.cell:=by decide +kernel)(c:∀y∈sc.names,y.2=.local→sc.names.lookup y.1=some .local:=by decide +kernel)(d:sc.names.lookup x=some .local:=by rfl)(e:∀y∈caps,sc.names.lookup y=some .free:=by decide +kernel)(f:∀y∈sc.names,y.2=.free→ar.names.lookup y.1=some .cell:=by decide +kernel):za9 sc ar x caps:=⟨a,b,c,d,e,f⟩
abbrev Ln (sp:Sd)(n:Nat):Prop:=∀ds S Q ex,sp ds S Q ex→ds.length=n
theorem za8 {X:Cx}{x:Str}{p pos:Pos}{e:Expr}{es:List Expr}{t:TDA}{k j:Nat}{ps:List Str}{sd:Sd}{ex:Ev→Addr→Sto→Prop}(G:Fk X.prog X.w X.K X.mg X.base k x ps sd)(hr:zan j X.A)(ha:PDA X ⟨ex,Z0.w⟩ (e::es) t)(hk:k≤j:=by decide)(hg:Gl X x:=by rfl)
  (hdb:(x==("__debug__":Str))=false:=by decide)(he:starEach (e::es) X.env=(false,eval e X.env)::starEach es X.env:=by rfl)(hpl:(backTo pos (starEach es X.env)).any (·.1)=false:=by rfl):PD X ⟨ex,Z0.w⟩ (.Call (.Name x p) (e::es) [] pos) (zcP ex sd t):=za1 G (hr.mono hk) zhk hg ha hdb he hpl
abbrev zdq:Stmt:=top 11
abbrev zcS:List Str:=["value"]
theorem zgQ:zau ["value"] zcS (zak zdq):=fsc
abbrev zdx:Stmt:=top 12
abbrev zcR:List Str:=["one","other"]
theorem zcY:zau ["one","other","rest"] zcR (zak zdx):=fsc
abbrev zdT:Stmt:=top 13
abbrev zcu:List Str:=["top","bottom"]
theorem zfc:zau ["top","bottom","divisor"] zcu (zak zdT):=fsc
abbrev zdu:Stmt:=top 14
abbrev zcE:List Str:=["a","b"]
theorem zhu:zau ["a","b"] zcE (zak zdu):=fsc
abbrev zdl:Stmt:=top 16
abbrev zcj:List Str:=["top","bottom"]
theorem zjL:zau ["top","bottom"] zcj (zak zdl):=fsc
abbrev zdd:Stmt:=top 17
abbrev zcI:List Str:=["low","high","grid"]
theorem zhA:zau ["low","high","grid"] zcI (zak zdd):=fsc
abbrev zda:Stmt:=top 18
abbrev zcr:List Str:=["a"]
theorem zhJ:zau ["a"] zcr (zak zda):=fsc
abbrev zee:Stmt:=top 19
abbrev zcv:List Str:=["a"]
theorem zka:zau ["a"] zcv (zak zee):=fsc
abbrev zdQ:Stmt:=top 20
abbrev zcW:List Str:=["a"]
theorem zfY:zau ["a","place"] zcW (zak zdQ):=fsc
abbrev zeb:Stmt:=top 22
abbrev zcT:List Str:=["_law_script","_law_k"]
theorem zjx:zau ["_law_script","_law_k"] zcT (zak zeb):=fsc
abbrev zeg:Stmt:=top 23
abbrev zcC:List Str:=["_law_cell","_law_kind"]
theorem zj2:zau ["_law_cell","_law_kind"] zcC (zak zeg):=fsc
abbrev zdL:Stmt:=top 24
abbrev zcz:List Str:=["_law_e"]
theorem zjH:zau ["_law_e"] zcz (zak zdL):=fsc
abbrev zcN:Stmt:=top 25
abbrev zca:List Str:=["_law_e","_law_at"]
theorem zg3:zau ["_law_e","_law_at"] zca (zak zcN):=fsc
abbrev zcH:Stmt:=top 26
abbrev zcU:List Str:=["_law_way","_law_number_here","_law_size","_law_grid"]
theorem zdg:zau ["_law_way","_law_number_here","_law_size","_law_grid","_law_own_here","_law_e"] zcU (zak zcH):=fsc
abbrev zcM:Stmt:=top 27
abbrev zcX:List Str:=["_law_size","_law_cell"]
theorem zfT:zau ["_law_size","_law_cell","_law_letters"] zcX (zak zcM):=fsc
abbrev zeA:Stmt:=zfH (top 9) 0
theorem zgU:zau ["self","word"] ["self","word"] (zak zeA):=fsc
abbrev zbR:Stmt:=top 28
abbrev zd0:List Str:=["_law_script"]
theorem zbN:zau ["_law_script","_law_way","_law_number_here","_law_size","_law_grid","_law_word","_law_e"] zd0 (zak zbR):=fsc
theorem kfo {K:PySem.W.Frag}{f c:Addr}{m:Value}{n q:Str}{st:Stmt}(l:K.lookup f=some (fo n q st m c)):PySem.W.keepIn K (.ref f)=true:=by
 unfold PySem.W.keepIn;simp only[l]
theorem ifo {K:PySem.W.Frag}{f c:Addr}{m:Value}{n q:Str}{st:Stmt}(l:K.lookup f=some (fo n q st m c)):PySem.W.isFn K (.ref f)=true:=by
 unfold PySem.W.isFn PySem.W.typeIn;simp only[l];rfl
theorem ln1 {P:List Value→Prop}(h:∀a,P [a]):∀us:List Value,us.length=1→P us
 | [a],_=>h a
theorem ln2 {P:List Value→Prop}(h:∀a b,P [a,b]):∀us:List Value,us.length=2→P us
 | [a,b],_=>h a b
theorem ln3 {P:List Value→Prop}(h:∀a b c,P [a,b,c]):∀us:List Value,us.length=3→P us
 | [a,b,c],_=>h a b c
theorem ln4 {P:List Value→Prop}(h:∀a b c d,P [a,b,c,d]):∀us:List Value,us.length=4→P us
 | [a,b,c,d],_=>h a b c d
abbrev Bn (n q:Str)(st:Stmt)(ps:List Str):Prop:=∀(kV doc pm:Value) (an:Option Addr) (cdv ct:Value) (us:List Value),us.length=ps.length→bindArgs (PySem.W.fnOf n q (zbO st) (zaW st) (zak st) .none kV doc pm an cdv ct) ⟨us,[]⟩=pure (ps.zip us)
def dfo {K:PySem.W.Frag}{mg:Str→Option Value}{h:Heap}(X:K.In h)(G:h.Ns mainGlobals mg){n:Str}{st:Stmt}{f c:Addr}{m:Value}{ps:List Str}(a:PySem.W.nsIn K mainGlobals n=some (some (.ref f)))(l:K.lookup f=some (fo n n st m c))(e:PySem.W.codeIn K (.ref c) n=true)(b:Bn n n st ps):Df K mg n st ps:=⟨_,_,zdK (st:=st) l e (kfo l),PySem.W.mg_of X G a,(zdK (st:=st) l e (kfo l)).binds b⟩
def dmo {K:PySem.W.Frag}{C:Addr}{n q:Str}{st:Stmt}{f c:Addr}{m:Value}{ps:List Str}(a:PySem.W.findIn K (.ref C) n=some (some (.ref f)))(l:K.lookup f=some (fo n q st m c))(e:PySem.W.codeIn K (.ref c) q=true)(b:Bn n q st ps):Dm K C n q st ps:=⟨_,_,zdK (st:=st) l e (kfo l),⟨a,ifo l,kfo l⟩,(zdK (st:=st) l e (kfo l)).binds b⟩
abbrev nsA (K:PySem.W.Frag)(n:Str)(f:Addr):Prop:=PySem.W.nsIn K mainGlobals n=some (some (.ref f))
abbrev fdA (K:PySem.W.Frag)(C:Addr)(n:Str)(f:Addr):Prop:=PySem.W.findIn K (.ref C) n=some (some (.ref f))
abbrev lkA (K:PySem.W.Frag)(f:Addr)(n q:Str)(st:Stmt)(m:Value)(c:Addr):Prop:=K.lookup f=some (fo n q st m c)
abbrev cdA (K:PySem.W.Frag)(c:Addr)(q:Str):Prop:=PySem.W.codeIn K (.ref c) q=true
theorem zcp {S:Sto}{n:Nat}{o:Ob}{T:Sto}(h:S[n]?=some o):(S++T)[n]?=some o:=by
 have hk:=(Vad.mp h).1;rw[Vap hk];exact h
theorem zkn {n m:Nat}{S:Sto}{Q:DK}{xs ys:List D}{b:Bool}(h1:S[n]?=some (.lst xs))(h2:S[m]?=some (.lst ys))(e:eqL (eqN 1) xs ys=some b)(hq:Q (.bl b) S):zb1 (zbQ 1) (.ref n) (.ref m) S Q:=by
 rw[zdR];unfold zbQ;simp only[zdo,zbT h1 rfl,zbT h2 rfl,zaB,e];exact hq
theorem zew {caps:List Nat}{ta:TDA}{te:TDE}{dl:Ev}{S S1:Sto}{Q:DK}{j:Int}(W:Nat→List D→Sto→Prop)(hta:∀K:List D→Sto→Prop,K [.int j] S1→ta dl S K)(hj:0≤j∧j≤1000)(hw:∀k ys S2,W k ys S2→S2[S1.length]?=some (.lst ys)∧ys.length=k)(h0:W 0 [] (S1++[.lst []]))
  (ht:∀(k:Nat) (ys:List D) (S2:Sto) (K:DK),k<j.toNat→W k ys S2→(∀y S3,S3[S1.length]?=some (.lst ys)→W (k+1) (ys++[y]) (S3.set S1.length (.lst (ys++[y])))→K y S3)→te (some (.int (k:Int))::zbj caps dl) S2 K)
  (hq:∀ys S2,W j.toNat ys S2→Q (.ref S1.length) S2):za2 caps ta zcd te dl S Q:=by
 unfold za2;refine hta _ ⟨⟨by omega,by omega⟩,λk S2=>k≤j.toNat∧∃ys,W k ys S2,⟨VaA _,_,h0⟩,?_⟩;rintro k S2 ⟨hk,ys,w⟩;obtain⟨w2,w3⟩:=hw _ _ _ w;split
 ·rename_i c;unfold zcD zcd;simp only[if_true];refine ht k ys S2 _ c w λy S3 e3 w4=>?_
  rw[e3];exact⟨by omega,by omega,_,w4⟩
 ·rename_i c;have hk:k=j.toNat:=by omega
  exact hq ys S2 (hk ▸ w)
structure Eb (K:PySem.W.Frag)(mg:Str→Option Value)(x:Str) where
 c:Addr
 bound:mg x=some (.ref c)
def KdX (a b c n:Addr)(k:Nat):D→Prop
 | .exc e=>(k=0∧e=a)∨(k=1∧e=b)∨(k=2∧e=c)
 | .xw e _=>k=4∧e=n
 | _=>False
theorem zba {K:PySem.W.Frag}{cv:Value}{a b c n:Addr}{k:Nat}{d:D}{te:TDE}{dl:Ev}{S:Sto}{Q:DK}{x y z w v:Bool}(h:KdX a b c n k d)(ht:∀J:DK,J d S→te dl S J)
  (ha:PySem.W.kitOne K (.ref a) cv=some x)(hb:PySem.W.kitOne K (.ref b) cv=some y)(hc:PySem.W.kitOne K (.ref c) cv=some z)(hn:PySem.W.kitOne K (.ref n) cv=some w)
  (e:v=if k=0 then x else if k=1 then y else if k=2 then z else w)(q:Q (.bl v) S):zbg (zaJ K cv [a,b,c,n]) te dl S Q:=by
 subst e;cases d with
 | exc e=>
  rcases h with ⟨rfl,rfl⟩ | ⟨rfl,rfl⟩ | ⟨rfl,rfl⟩
  ·exact zeP ht (zdM (by simp) ha) q
  ·exact zeP ht (zdM (by simp) hb) q
  ·exact zeP ht (zdM (by simp) hc) q
 | xw e t=>
  obtain⟨rfl,rfl⟩:=h;exact zif ht (zdM (by simp) hn) q
 | _=>exact h.elim
def tru (k:Int):List D:=(List.range 8).map λ(i:Nat)=>D.bl (decide ((i:Int)=k))
theorem KdX.cs {a b c n:Addr}{k:Nat}{d:D}(h:KdX a b c n k d):k=0∨k=1∨k=2∨k=4:=by
 cases d with
 | exc e=>rcases h with ⟨rfl,_⟩ | ⟨rfl,_⟩ | ⟨rfl,_⟩ <;> simp
 | xw e x=>obtain⟨rfl,_⟩:=h; simp
 | _=>exact h.elim
abbrev vK (k:Nat)(x y z w:Bool):D:=.bl (if k=0 then x else if k=1 then y else if k=2 then z else w)
theorem zhn {k:Nat}(h:k=0∨k=1∨k=2∨k=4):tru k=[vK k true false false false,vK k false true false false,vK k false false true false,vK k false false false false,vK k false false false true,vK k false false false false,vK k false false false false,vK k false false false false]:=by
 rcases h with rfl | rfl | rfl | rfl <;> rfl
theorem zgC:∀(xs ys:List Bool),xs.length=ys.length→eqL (eqN 1) (xs.map D.bl) (ys.map D.bl)=some (xs==ys)
 | [],[],_=>rfl
 | x::xs,y::ys,h=>by
  have ih:=zgC xs ys (by simpa using h)
  show (match some (x==y),eqL (eqN 1) (xs.map D.bl) (ys.map D.bl) with | some b,some c=>some (b&&c) | _,_=>none)=_;rw[ih];rfl
theorem zil {k:Nat}(h:k=0∨k=1∨k=2∨k=4)(a:Int):eqL (eqN 1) (tru k) (tru a)=some (decide ((k:Int)=a)):=by
 have z:=zgC ((List.range 8).map λ(i:Nat)=>decide ((i:Int)=(k:Int))) ((List.range 8).map λ(i:Nat)=>decide ((i:Int)=a)) (by simp);rw[List.map_map,List.map_map] at z;refine Eq.trans z (congrArg some ?_);by_cases e:(k:Int)=a
 ·subst e;rw[decide_eq_true rfl];exact beq_self_eq_true _
 ·rw[decide_eq_false e];refine beq_eq_false_iff_ne.mpr λq=>?_
  have q2:=congrArg (λl:List Bool=>l[k]?) q
  have k8:k<8:=by omega
  simp[k8] at q2;exact e (by omega)
theorem zfj:∀xs:List Bool,zbu (eqN 0) (xs.map D.bl) (.bl true)=some (xs.any id)
 | []=>rfl
 | x::xs=>by
  show (match some (x==true),zbu (eqN 0) (xs.map D.bl) (.bl true) with | some b,some c=>some (b||c) | _,_=>none)=_;rw[zfj xs];cases x <;> rfl
theorem zeR {n:Nat}{S:Sto}{Q:DK}{xs:List Bool}(h:S[n]?=some (.lst (xs.map D.bl)))(hq:Q (.bl (!xs.any id)) S):zb1 (wIn 0 true) (.bl true) (.ref n) S Q:=by
 rw[zdR];unfold wIn;simp only[zbT h rfl,zaB,zfj];exact hq
theorem zeU {k n j:Nat}{to:TDE}{t:TDA}{dl:Ev}{S:Sto}{Q:DK}{xs:List Bool}(hto:∀K:DK,K (.ref n) S→to dl S K)(ht:∀K:List D→Sto→Prop,K [.bl true] S→t dl S K)(h:S[n]?=some (.lst (xs.map D.bl)))(e:zb6 (eqN k) (xs.map D.bl) (.bl true)=some (some j))
  (hq:Q (.int (j:Int)) S):zdw k to t dl S Q:=by
 unfold zdw;refine hto _ ⟨by rw[zbT h rfl]; rfl,ht _ ?_⟩;unfold zd2;simp only[zbT h rfl,zaB,e];exact hq
theorem tri (k:Nat):(List.range 3).map (λ(i:Nat)=>D.bl (decide ((k:Int)=(i:Int))))=[decide ((k:Int)=0),decide ((k:Int)=1),decide ((k:Int)=2)].map D.bl:=rfl
def ltr (c:Int)(i:Nat):Str:=⟨#[((Str.ofString "abcdefghijklmnopqrstuvwxyz").cps[((c/((i:Int)+1)+(i:Int))%26).toNat]?).getD 0]⟩
theorem zi6 (c:Int)(i:Nat):(Str.ofString "abcdefghijklmnopqrstuvwxyz").cps[((c/((i:Int)+1)+(i:Int))%26).toNat]?=some (((Str.ofString "abcdefghijklmnopqrstuvwxyz").cps[((c/((i:Int)+1)+(i:Int))%26).toNat]?).getD 0):=by
 have h:((c/((i:Int)+1)+(i:Int))%26).toNat<(Str.ofString "abcdefghijklmnopqrstuvwxyz").cps.size:=by
  rw[show (Str.ofString "abcdefghijklmnopqrstuvwxyz").cps.size=26 from by decide];omega
 rw[Array.getElem?_eq_getElem h];rfl
theorem zdS (f:Nat→Str):∀l:List Nat,zaV (l.map λi=>D.str (f i))=some (l.map f)
 | []=>rfl
 | x::l=>by
  show (zaV (l.map λi=>D.str (f i))).map (f x::·)=_;rw[zdS f l];rfl
def zcB:Sd:=λds S Q ex=>match ds with
 | [.int _]=>Q (.bl true) S
 | _=>False
theorem zio:Ln (zcB) 1:=λds S Q ex h=>by unfold zcB at h; split at h <;> first | rfl | exact h.elim
def zcy:Sd:=λds S Q ex=>match ds with
 | [.int a,.int b]=>(0≤a∧0≤b)∧Q (.int ((Int.gcd a b:Nat):Int)) S
 | _=>False
theorem zhI:Ln (zcy) 2:=λds S Q ex h=>by unfold zcy at h; split at h <;> first | rfl | exact h.elim
def zcg (cNoNumber:Addr):Sd:=λds S Q ex=>match ds with
 | [.int T,.int B]=>(B=0∧ex cNoNumber S)∨((B≠0∧Sz 4000 B)∧∀t b:Int,1≤b→t*B=T*b→Int.gcd t b=1→t.natAbs≤T.natAbs→b.natAbs≤B.natAbs→Q (.tup [.int t,.int b]) S)
 | _=>False
theorem ziL (cNoNumber:Addr):Ln (zcg cNoNumber) 2:=λds S Q ex h=>by unfold zcg at h; split at h <;> first | rfl | exact h.elim
def zcf:Sd:=λds S Q ex=>match ds with
 | [.tup [.int a,.int b],.tup [.int c,.int d]]=>(IntMulOk a d∧IntMulOk c b)∧Q (.bl (decide (a*d<c*b))) S
 | _=>False
theorem zgS:Ln (zcf) 2:=λds S Q ex h=>by unfold zcf at h; split at h <;> first | rfl | exact h.elim
def zco:Sd:=λds S Q ex=>match ds with
 | [.int t,.int b]=>CFd 0 b∧Q (.int (-(-t/b))) S
 | _=>False
theorem zih:Ln (zco) 2:=λds S Q ex h=>by unfold zco at h; split at h <;> first | rfl | exact h.elim
def zcO (cNoSpan:Addr):Sd:=λds S Q ex=>match ds with
 | [.tup [.int a,.int b],.tup [.int c,.int d],.int g]=>(IntMulOk c b∧IntMulOk a d)∧((c*b<a*d∧ex cNoSpan S)∨(¬ c*b<a*d∧(IntMulOk a g∧IntMulOk c g∧CFd 0 b∧CFd 0 d)∧Q (.tup [.int (a*g/b),.int (-(-(c*g)/d))]) S))
 | _=>False
theorem zhe (cNoSpan:Addr):Ln (zcO cNoSpan) 3:=λds S Q ex h=>by unfold zcO at h; split at h <;> first | rfl | exact h.elim
def zcJ:Sd:=λds S Q ex=>match ds with
 | [.tup [.int a,.int b]]=>Q (.int (b-a)) S
 | _=>False
theorem zg5:Ln (zcJ) 1:=λds S Q ex h=>by unfold zcJ at h; split at h <;> first | rfl | exact h.elim
def zcs:Sd:=λds S Q ex=>match ds with
 | [.tup [.int a,.int b]]=>Q (.int ((a+b)/2)) S
 | _=>False
theorem zh0:Ln (zcs) 1:=λds S Q ex h=>by unfold zcs at h; split at h <;> first | rfl | exact h.elim
def zce (cNoCut:Addr):Sd:=λds S Q ex=>match ds with
 | [.tup [.int a,.int b]]=>(b-a<2∧ex cNoCut S)∨(2≤b-a∧Q (.tup [.tup [.int a,.int ((a+b)/2)],.tup [.int ((a+b)/2),.int b]]) S)
 | _=>False
theorem zkp (cNoCut:Addr):Ln (zce cNoCut) 1:=λds S Q ex h=>by unfold zce at h; split at h <;> first | rfl | exact h.elim
def zcx:Sd:=λds S Q ex=>match ds with
 | [.ref n,.int k]=>∃ns:List Int,S[n]?=some (.frz (ns.map D.int))∧0≤k∧Q (.int (ns.getD k.toNat 0)) S
 | _=>False
theorem zhH:Ln (zcx) 2:=λds S Q ex h=>by unfold zcx at h; split at h <;> first | rfl | exact h.elim
def zcl:Sd:=λds S Q ex=>match ds with
 | [.int _,.int _]=>∀z:Int,-(10^40)≤z→z≤10^40→Q (.int z) S
 | _=>False
theorem zhC:Ln (zcl) 2:=λds S Q ex h=>by unfold zcl at h; split at h <;> first | rfl | exact h.elim
def zcA (cNoNumber:Addr)(cNoSpan:Addr)(cNoCut:Addr)(cNoName:Addr):Sd:=λds S Q ex=>match ds with
 | [d]=>∃k,KdX cNoNumber cNoSpan cNoCut cNoName k d∧Q (.ref S.length) (S++[.lst (tru k)])
 | _=>False
theorem ziA (cNoNumber:Addr)(cNoSpan:Addr)(cNoCut:Addr)(cNoName:Addr):Ln (zcA cNoNumber cNoSpan cNoCut cNoName) 1:=λds S Q ex h=>by unfold zcA at h; split at h <;> first | rfl | exact h.elim
def zb7 (cNoNumber:Addr)(cNoSpan:Addr)(cNoCut:Addr)(cNoName:Addr):Sd:=λds S Q ex=>match ds with
 | [d,.int at']=>∃k,KdX cNoNumber cNoSpan cNoCut cNoName k d∧∀T,Q (.bl (decide ((k:Int)=at'))) (S++T)
 | _=>False
theorem zjE (cNoNumber:Addr)(cNoSpan:Addr)(cNoCut:Addr)(cNoName:Addr):Ln (zb7 cNoNumber cNoSpan cNoCut cNoName) 2:=λds S Q ex h=>by unfold zb7 at h; split at h <;> first | rfl | exact h.elim
def zcQ (cNoNumber:Addr)(cNoSpan:Addr)(cNoCut:Addr):Sd:=λds S Q ex=>match ds with
 | [.int w,.int n,.int s,.int g]=>(0≤w∧w≤2)∧(-(10^40)≤n∧n≤10^40)∧(0≤s∧s<10^20)∧∀S',Q (.int w) S'
 | _=>False
theorem zks (cNoNumber:Addr)(cNoSpan:Addr)(cNoCut:Addr):Ln (zcQ cNoNumber cNoSpan cNoCut) 4:=λds S Q ex h=>by unfold zcQ at h; split at h <;> first | rfl | exact h.elim
def zcL:Sd:=λds S Q ex=>match ds with
 | [.int n,.int c]=>(0≤n∧n≤9)∧(0≤c∧c<10^6)∧∀z:Str,Q (.str z) S
 | _=>False
theorem zhh:Ln (zcL) 2:=λds S Q ex h=>by unfold zcL at h; split at h <;> first | rfl | exact h.elim
section
variable {P:Program}{w:World}{K:PySem.W.Frag}{mg:Str→Option Value}{base:Heap}
def zjO  (zdj:Df K mg "is_whole" zdq zcS)(zav:mg "isinstance"=none)(zbo:mg "bool"=none)(zbH:mg "int"=none)(zbV:Kit K "bool")(zb8:Kit K "int"):Fk P w K mg base 1 "is_whole" zcS zcB:=
 zdj.mk' (za0 (k:=0) zdj.F zgQ (zio) λcdv A outer s H E hr=>⟨_,(zap (zax (zeM (zeD zb8 rfl zav rfl zbH Boot.«int» (dv 0)) (zfB (zki (zeD zbV rfl zav rfl zbo Boot.«bool» (dv 0))))))),λds S Q ex h=>by
  unfold zcB at h;split at h
  ·exact h
  ·exact h.elim⟩)
def zhT  (zdk:Df K mg "greatest_divisor" zdx zcR):Fk P w K mg base 1 "greatest_divisor" zcR zcy:=
 zdk.mk' (za0 (k:=0) zdk.F zcY (zhI) λcdv A outer s H E hr=>⟨_,(zaw (zhB PassesOwn.never (zaX (zfl hr) (dv 1) zad (zaH _)) (zaw (zaL (i:=2) zcY.nd rfl (Or.inl rfl) (zal zcF (dv 0) (dv 1))) (zaw (zaL (i:=0) zcY.nd rfl (Or.inl rfl) (dv 1)) (zap (zaL (i:=1) zcY.nd rfl (Or.inl rfl) (dv 2)))))) (zap (zax (dv 0)))),λds S Q ex h=>by
  unfold zcy at h;split at h
  ·rename_i a b;obtain⟨⟨ha,hb⟩,h⟩:=h;refine⟨λm dl' S'=>S'=S∧∃(x y:Int) (o:Option D),dl'=[some (.int x),some (.int y),o]∧0≤x∧0≤y∧Int.gcd x y=Int.gcd a b∧m=y.toNat,⟨b.toNat,rfl,a,b,none,rfl,ha,hb,rfl,rfl⟩,?_⟩;rintro m dl' S' ⟨rfl,x,y,o,rfl,hx,hy,hg,rfl⟩;refine ifN (λc=>?_) (λc=>?_)
   ·have c':0<y:=by omega
    exact⟨c',⟨(x%y).toNat,by have:=zgh (a:=x) c'; omega,rfl,y,x%y,_,rfl,hy,(zgh (a:=x) c').1,(zjZ x y).trans hg,rfl⟩⟩
   ·subst c;have e:((Int.gcd a b:Nat):Int)=x:=by rw[← hg,Int.gcd_zero_right]; omega
    rw[e] at h;exact h
  ·exact h.elim⟩)
def zjv  (zdD:Df K mg "fraction" zdT zcu)(zaf:Ec K mg "NoNumber")(ze1:Fk P w K mg base 1 "greatest_divisor" zcR zcy)(zdA:Fk P w K mg base 1 "is_whole" zcS zcB)(zbk:mg "abs"=none):Fk P w K mg base 2 "fraction" zcu (zcg zaf.c):=
 zdD.mk' (zen (k:=1) zdD.F zfc (ziL zaf.c) λcdv A outer s H E ex hr hpx hrx=>⟨_,(zaw (zaR (PDW.pt (ze7 (zc1 (zcG (za1 zdA (hr.mono (by decide)) hpx rfl (zaa (dv 0) zaj)))) (ze7 (zc1 (zcG (za1 zdA (hr.mono (by decide)) hpx rfl (zaa (dv 1) zaj)))) (zf9 (zaX (zbq hr) (dv 1) zad (zaH _)))))) (zap (zez zaf.xc PySem.F.excBase_ValueError hrx hr.hd rfl (zaa zcw zaj))) za5) (zaw (zaL (i:=2) zfc.nd rfl (Or.inl rfl) (za1 ze1 (hr.mono (by decide)) hpx rfl (zaa (ze2 zgd rfl zbk Boot.«abs» (zaa (dv 0) zaj)) (zaa (ze2 zgd rfl zbk Boot.«abs» (zaa (dv 1) zaj)) zaj)))) (zaw (zaR (zaX zc5 (dv 1) zad (zaH _)) (zap (zaL (i:=2) zfc.nd rfl (Or.inl rfl) (zeK zem (dv 2)))) za5) (zap (zax (zbF (zaa (zal zgL (dv 0) (dv 2)) (zaa (zal zgL (dv 1) (dv 2)) zaj)))))))),λds S Q h=>by
  unfold zcg at h;split at h
  ·rename_i T B;rcases h with ⟨hB,h⟩ | ⟨⟨hB,sB⟩,h⟩
   ·exact ifT (decide_eq_true hB) h
   ·have e:((Int.gcd (zaF T) (zaF B):Nat):Int)=((Int.gcd T B:Nat):Int):=by rw[zhi]
    have sg:Sz 4000 ((Int.gcd T B:Nat):Int):=by
     have gle:Int.gcd T B≤B.natAbs:=Nat.le_of_dvd (by omega) (Int.gcd_dvd_natAbs_right T B);unfold Sz at sB ⊢;omega
    refine ifD (λc=>absurd c hB) (λc=>?_);refine⟨⟨zfN T,zfN B⟩,?_⟩;refine ifD (λc2=>?_) (λc2=>?_)
    ·have f:=zgN (T:=T) (B:=B) (d:=-((Int.gcd (zaF T) (zaF B):Nat):Int)) hB (by rw[if_pos c2,e]);obtain⟨f1,f2,f3,f4,f5,f6⟩:=f;have s2:Sz 4000 (-((Int.gcd (zaF T) (zaF B):Nat):Int)):=by rw[e]; exact sg.neg
     exact⟨⟨f1,s2.log f1⟩,⟨f1,s2.log f1⟩,h _ _ f4 f6 f5 (zd8 f1 f2) (zd8 f1 f3)⟩
    ·have f:=zgN (T:=T) (B:=B) (d:=((Int.gcd (zaF T) (zaF B):Nat):Int)) hB (by rw[if_neg c2,e]);obtain⟨f1,f2,f3,f4,f5,f6⟩:=f;have s2:Sz 4000 ((Int.gcd (zaF T) (zaF B):Nat):Int):=by rw[e]; exact sg
     exact⟨⟨f1,s2.log f1⟩,⟨f1,s2.log f1⟩,h _ _ f4 f6 f5 (zd8 f1 f2) (zd8 f1 f3)⟩
  ·exact h.elim⟩)
def zhD  (zc3:Df K mg "less" zdu zcE):Fk P w K mg base 1 "less" zcE zcf:=
 zc3.mk' (za0 (k:=0) zc3.F zhu (zgS) λcdv A outer s H E hr=>⟨_,(zap (zax (zcq zc5 (zal zci (zaK (dv 0) zad (λ_ _=>rfl)) (zaK (dv 1) zad (λ_ _=>rfl))) (zal zci (zaK (dv 1) zad (λ_ _=>rfl)) (zaK (dv 0) zad (λ_ _=>rfl))) (zaH _)))),λds S Q ex h=>by
  unfold zcf at h;split at h
  ·obtain⟨⟨h1,h2⟩,h⟩:=h;exact⟨h1,h2,h⟩
  ·exact h.elim⟩)
def zi7  (zef:Df K mg "rounded_up" zdl zcj):Fk P w K mg base 1 "rounded_up" zcj zco:=
 zef.mk' (za0 (k:=0) zef.F zjL (zih) λcdv A outer s H E hr=>⟨_,(zap (zax (zeK zem (zal zdI (zeK zem (dv 0)) (dv 1))))),λds S Q ex h=>by
  unfold zco at h;split at h
  ·exact h
  ·exact h.elim⟩)
def ziJ  (zdv:Df K mg "span_of" zdd zcI)(zae:Ec K mg "NoSpan")(zfd:Fk P w K mg base 1 "rounded_up" zcj zco)(zfb:Fk P w K mg base 1 "less" zcE zcf):Fk P w K mg base 2 "span_of" zcI (zcO zae.c):=
 zdv.mk' (zen (k:=1) zdv.F zhA (zhe zae.c) λcdv A outer s H E ex hr hpx hrx=>⟨_,(zaw (zaR (zcG (za1 zfb (hr.mono (by decide)) hpx rfl (zaa (dv 1) (zaa (dv 0) zaj)))) (zap (zez zae.xc PySem.F.excBase_ValueError hrx hr.hd rfl (zaa zcw zaj))) za5) (zap (zax (zbF (zaa (zal zdI (zal zci (zaK (dv 0) zad (λ_ _=>rfl)) (dv 2)) (zaK (dv 0) zad (λ_ _=>rfl))) (zaa (za1 zfd (hr.mono (by decide)) hpx rfl (zaa (zal zci (zaK (dv 1) zad (λ_ _=>rfl)) (dv 2)) (zaa (zaK (dv 1) zad (λ_ _=>rfl)) zaj))) zaj)))))),λds S Q h=>by
  unfold zcO at h;split at h
  ·obtain⟨m,h⟩:=h;refine⟨m,?_⟩;rcases h with ⟨e,h⟩ | ⟨e,⟨m1,m2,m3,m4⟩,h⟩
   ·exact ifT (decide_eq_true e) h
   ·exact ifF (decide_eq_false e) ⟨m1,m3,m2,m4,h⟩
  ·exact h.elim⟩)
def zkc  (zc9:Df K mg "width" zda zcr):Fk P w K mg base 1 "width" zcr zcJ:=
 zc9.mk' (za0 (k:=0) zc9.F zhJ (zg5) λcdv A outer s H E hr=>⟨_,(zap (zax (zal zdn (zaK (dv 0) zad (λ_ _=>rfl)) (zaK (dv 0) zad (λ_ _=>rfl))))),λds S Q ex h=>by
  unfold zcJ at h;split at h
  ·exact h
  ·exact h.elim⟩)
def zjK  (zd7:Df K mg "middle" zee zcv):Fk P w K mg base 1 "middle" zcv zcs:=
 zd7.mk' (za0 (k:=0) zd7.F zka (zh0) λcdv A outer s H E hr=>⟨_,(zap (zax (zal zit (zal zbp (zaK (dv 0) zad (λ_ _=>rfl)) (zaK (dv 0) zad (λ_ _=>rfl))) zad))),λds S Q ex h=>by
  unfold zcs at h;split at h
  ·exact h
  ·exact h.elim⟩)
def zir  (zdi:Df K mg "halves" zdQ zcW)(zag:Ec K mg "NoCut")(zeo:Fk P w K mg base 1 "middle" zcv zcs)(ze8:Fk P w K mg base 1 "width" zcr zcJ):Fk P w K mg base 2 "halves" zcW (zce zag.c):=
 zdi.mk' (zen (k:=1) zdi.F zfY (zkp zag.c) λcdv A outer s H E ex hr hpx hrx=>⟨_,(zaw (zaR (zaX zc5 (za1 ze8 (hr.mono (by decide)) hpx rfl (zaa (dv 0) zaj)) zad (zaH _)) (zap (zez zag.xc PySem.F.excBase_ValueError hrx hr.hd rfl (zaa zcw zaj))) za5) (zaw (zaL (i:=1) zfY.nd rfl (Or.inl rfl) (za1 zeo (hr.mono (by decide)) hpx rfl (zaa (dv 0) zaj))) (zap (zax (zbF (zaa (zbF (zaa (zaK (dv 0) zad (λ_ _=>rfl)) (zaa (dv 1) zaj))) (zaa (zbF (zaa (dv 1) (zaa (zaK (dv 0) zad (λ_ _=>rfl)) zaj))) zaj))))))),λds S Q h=>by
  unfold zce at h;split at h
  ·rcases h with ⟨hB,h⟩ | ⟨hB,h⟩
   ·exact ifT (decide_eq_true hB) h
   ·exact ifF (decide_eq_false (by omega)) h
  ·exact h.elim⟩)
def zhP  (zdr:Df K mg "_law_cell_at" zeb zcT)(zbs:mg "len"=none):Fk P w K mg base 1 "_law_cell_at" zcT zcx:=
 zdr.mk' (za0 (k:=0) zdr.F zjx (zhH) λcdv A outer s H E hr=>⟨_,(zaw (zaR (zaX zc5 (dv 1) (ze2 zg2 rfl zbs Boot.«len» (zaa (dv 0) zaj)) (zaH _)) (zap (zax (zaK (dv 0) (dv 1) (λ_ _=>rfl)))) za5) (zap (zax zad))),λds S Q ex h=>by
  unfold zcx at h;split at h
  ·rename_i n k;obtain⟨ns,h1,h2,h3⟩:=h;simp only[zet,dSeq,ze3,dRet,zfy,dIf,zdH,zcK,dC,dOp,dUn,wI,wI0,wIf,zc6,dNot,dAnd,dOr,zev,dOrV,ze9,dIfE,zgM,dNil,ze5,dTup,dLst,wIx,zds,zcP,zeX,zdO,zfz,zdE,wEq,wNe,wIsN,zfU,wNeg,za3,Vaf,VaT,Vba,Vbb,Vbc,Vbd,Nat.reduceAdd,Nat.reduceSub,List.replicate,Vbe,VaD,Vbf,Vbg,ite_true,ite_false,if_true,if_false,Nat.reduceLeDiff,eq_self,p40,p41,p20,zbZ,zdz,Int.reduceLT,Int.reduceLE,Int.reduceNeg,decide_true,Bool.and_self,Bool.and_true,Bool.true_and,L3.eq1,L3.eq2,L3.eqT,L3.eqF,L3.eqL];have hA:lAt S n=some (.frz (ns.map D.int)):=zbT h1 rfl;simp only[hA,zaB,VaH];refine ite2 (λc=>?_) (λc=>?_)
   ·have c':k<(ns.length:Int):=of_decide_eq_true c
    have hk:k.toNat<ns.length:=(by omega)
    have e:atI (ns.map D.int) k=some (.int ns[k.toNat]):=by
     have z:=ziP (xs:=ns.map D.int) (j:=k.toNat) (v:=.int ns[k.toNat]) (by simp[hk]);rw[show ((k.toNat:Nat):Int)=k by omega] at z;exact z
    simp only[e];rw[Vbh,VaW hk] at h3;exact h3
   ·have c':¬ k<(ns.length:Int):=λz=>c (decide_eq_true z)
    rw[Vbh,List.getElem?_eq_none (by omega)] at h3;exact h3
  ·exact h.elim⟩)
def zjk  (zd1:Df K mg "_law_number" zeg zcC):Fk P w K mg base 1 "_law_number" zcC zcl:=
 zd1.mk' (za0 (k:=0) zd1.F zj2 (zhC) λcdv A outer s H E hr=>⟨_,(zaw (zaR (zaX (zbq hr) (zal zbe (dv 1) zad) zad (zaH _)) (zap (zax (zal zdn (zal zcF (dv 0) (zal zbp (zal zci zad (zal zdX zad zad)) zad)) (zal zdX zad zad)))) za5) (zaw (zaR (zaX (zbq hr) (zal zbe (dv 1) zad) zad (zaH _)) (zap (zax (zal zdn (zal zbe (dv 0) zad) zad))) za5) (zap (zax (zal zdn (zal zbe (dv 0) zad) zad))))),λds S Q ex h=>by
  unfold zcl at h;split at h
  ·rename_i c k;simp only[zet,dSeq,ze3,dRet,zfy,dIf,zdH,zcK,dC,dOp,dUn,wI,wI0,wIf,zc6,dNot,dAnd,dOr,zev,dOrV,ze9,dIfE,zgM,dNil,ze5,dTup,dLst,wIx,zds,zcP,zeX,zdO,zfz,zdE,wEq,wNe,wIsN,zfU,wNeg,za3,Vaf,VaT,Vba,Vbb,Vbc,Vbd,Nat.reduceAdd,Nat.reduceSub,List.replicate,Vbe,VaD,Vbf,Vbg,ite_true,ite_false,if_true,if_false,Nat.reduceLeDiff,eq_self,p40,p41,p20,zbZ,zdz,Int.reduceLT,Int.reduceLE,Int.reduceNeg,decide_true,Bool.and_self,Bool.and_true,Bool.true_and,L3.eq1,L3.eq2,L3.eqT,L3.eqF,L3.eqL];refine ite2 (λ_=>?_) (λ_=>?_)
   ·exact⟨zgY,by decide,h _ (by omega) (by omega)⟩
   ·refine ite2 (λ_=>?_) (λ_=>?_)
    ·exact h _ (by omega) (by omega)
    ·exact h _ (by omega) (by omega)
  ·exact h.elim⟩)
def zim  (zdY:Df K mg "_law_kinds" zdL zcz)(zbr:Ec K mg "NoBook")(zai:Eb K mg "NoName")(zag:Ec K mg "NoCut")(zae:Ec K mg "NoSpan")(zaf:Ec K mg "NoNumber")(zbD:Ec K mg "NoTask")(zbG:Ec K mg "TooMuch")(zbx:Ec K mg "NoRow")(zav:mg "isinstance"=none)(nx_NoName:Nx K zai.c)(iB_NoName_NoBook:PySem.W.kitOne K (.ref zai.c) (.ref zbr.c)=some false)(nx_NoCut:Nx K zag.c)(iB_NoCut_NoBook:PySem.W.kitOne K (.ref zag.c) (.ref zbr.c)=some false)(nx_NoSpan:Nx K zae.c)(iB_NoSpan_NoBook:PySem.W.kitOne K (.ref zae.c) (.ref zbr.c)=some false)(nx_NoNumber:Nx K zaf.c)(iB_NoNumber_NoBook:PySem.W.kitOne K (.ref zaf.c) (.ref zbr.c)=some false)(iB_NoName_NoTask:PySem.W.kitOne K (.ref zai.c) (.ref zbD.c)=some false)(iB_NoCut_NoTask:PySem.W.kitOne K (.ref zag.c) (.ref zbD.c)=some false)(iB_NoSpan_NoTask:PySem.W.kitOne K (.ref zae.c) (.ref zbD.c)=some false)(iB_NoNumber_NoTask:PySem.W.kitOne K (.ref zaf.c) (.ref zbD.c)=some false)(iB_NoName_TooMuch:PySem.W.kitOne K (.ref zai.c) (.ref zbG.c)=some false)(iB_NoCut_TooMuch:PySem.W.kitOne K (.ref zag.c) (.ref zbG.c)=some false)(iB_NoSpan_TooMuch:PySem.W.kitOne K (.ref zae.c) (.ref zbG.c)=some false)(iB_NoNumber_TooMuch:PySem.W.kitOne K (.ref zaf.c) (.ref zbG.c)=some false)(iB_NoName_NoName:PySem.W.kitOne K (.ref zai.c) (.ref zai.c)=some true)(iB_NoCut_NoName:PySem.W.kitOne K (.ref zag.c) (.ref zai.c)=some false)(iB_NoSpan_NoName:PySem.W.kitOne K (.ref zae.c) (.ref zai.c)=some false)(iB_NoNumber_NoName:PySem.W.kitOne K (.ref zaf.c) (.ref zai.c)=some false)(iB_NoName_NoRow:PySem.W.kitOne K (.ref zai.c) (.ref zbx.c)=some false)(iB_NoCut_NoRow:PySem.W.kitOne K (.ref zag.c) (.ref zbx.c)=some false)(iB_NoSpan_NoRow:PySem.W.kitOne K (.ref zae.c) (.ref zbx.c)=some false)(iB_NoNumber_NoRow:PySem.W.kitOne K (.ref zaf.c) (.ref zbx.c)=some false)(iB_NoName_NoCut:PySem.W.kitOne K (.ref zai.c) (.ref zag.c)=some false)(iB_NoCut_NoCut:PySem.W.kitOne K (.ref zag.c) (.ref zag.c)=some true)(iB_NoSpan_NoCut:PySem.W.kitOne K (.ref zae.c) (.ref zag.c)=some false)(iB_NoNumber_NoCut:PySem.W.kitOne K (.ref zaf.c) (.ref zag.c)=some false)(iB_NoName_NoSpan:PySem.W.kitOne K (.ref zai.c) (.ref zae.c)=some false)(iB_NoCut_NoSpan:PySem.W.kitOne K (.ref zag.c) (.ref zae.c)=some false)(iB_NoSpan_NoSpan:PySem.W.kitOne K (.ref zae.c) (.ref zae.c)=some true)(iB_NoNumber_NoSpan:PySem.W.kitOne K (.ref zaf.c) (.ref zae.c)=some false)(iB_NoName_NoNumber:PySem.W.kitOne K (.ref zai.c) (.ref zaf.c)=some false)(iB_NoCut_NoNumber:PySem.W.kitOne K (.ref zag.c) (.ref zaf.c)=some false)(iB_NoSpan_NoNumber:PySem.W.kitOne K (.ref zae.c) (.ref zaf.c)=some false)(iB_NoNumber_NoNumber:PySem.W.kitOne K (.ref zaf.c) (.ref zaf.c)=some true):FkH P w K mg base 1 "_law_kinds" zcz (zcA zaf.c zae.c zag.c zai.c):=
 zdY.mkH (zga (k:=0) zdY.F zjH (ziA zaf.c zae.c zag.c zai.c) λcdv A outer s H E hr=>⟨_,(zap (zax (zfh (zaa (zbl (ans:=zaJ K (.ref zaf.c) [zaf.c,zae.c,zag.c,zai.c]) (zbc (zam nx_NoNumber (zam nx_NoSpan (zam nx_NoCut (zam nx_NoName zbb))))) rfl zav rfl zaf.xc.bound (dv 0)) (zaa (zbl (ans:=zaJ K (.ref zae.c) [zaf.c,zae.c,zag.c,zai.c]) (zbc (zam nx_NoNumber (zam nx_NoSpan (zam nx_NoCut (zam nx_NoName zbb))))) rfl zav rfl zae.xc.bound (dv 0)) (zaa (zbl (ans:=zaJ K (.ref zag.c) [zaf.c,zae.c,zag.c,zai.c]) (zbc (zam nx_NoNumber (zam nx_NoSpan (zam nx_NoCut (zam nx_NoName zbb))))) rfl zav rfl zag.xc.bound (dv 0)) (zaa (zbl (ans:=zaJ K (.ref zbx.c) [zaf.c,zae.c,zag.c,zai.c]) (zbc (zam nx_NoNumber (zam nx_NoSpan (zam nx_NoCut (zam nx_NoName zbb))))) rfl zav rfl zbx.xc.bound (dv 0)) (zaa (zbl (ans:=zaJ K (.ref zai.c) [zaf.c,zae.c,zag.c,zai.c]) (zbc (zam nx_NoNumber (zam nx_NoSpan (zam nx_NoCut (zam nx_NoName zbb))))) rfl zav rfl zai.bound (dv 0)) (zaa (zbl (ans:=zaJ K (.ref zbG.c) [zaf.c,zae.c,zag.c,zai.c]) (zbc (zam nx_NoNumber (zam nx_NoSpan (zam nx_NoCut (zam nx_NoName zbb))))) rfl zav rfl zbG.xc.bound (dv 0)) (zaa (zbl (ans:=zaJ K (.ref zbD.c) [zaf.c,zae.c,zag.c,zai.c]) (zbc (zam nx_NoNumber (zam nx_NoSpan (zam nx_NoCut (zam nx_NoName zbb))))) rfl zav rfl zbD.xc.bound (dv 0)) (zaa (zbl (ans:=zaJ K (.ref zbr.c) [zaf.c,zae.c,zag.c,zai.c]) (zbc (zam nx_NoNumber (zam nx_NoSpan (zam nx_NoCut (zam nx_NoName zbb))))) rfl zav rfl zbr.xc.bound (dv 0)) zaj))))))))))),λds S Q ex h=>by
  unfold zcA at h;split at h
  ·rename_i d;obtain⟨k,hk,h⟩:=h;rw[zhn hk.cs] at h;refine zba hk (λJ hJ=>by exact hJ) iB_NoNumber_NoNumber iB_NoSpan_NoNumber iB_NoCut_NoNumber iB_NoName_NoNumber rfl ?_;refine zba hk (λJ hJ=>by exact hJ) iB_NoNumber_NoSpan iB_NoSpan_NoSpan iB_NoCut_NoSpan iB_NoName_NoSpan rfl ?_;refine zba hk (λJ hJ=>by exact hJ) iB_NoNumber_NoCut iB_NoSpan_NoCut iB_NoCut_NoCut iB_NoName_NoCut rfl ?_;refine zba hk (λJ hJ=>by exact hJ) iB_NoNumber_NoRow iB_NoSpan_NoRow iB_NoCut_NoRow iB_NoName_NoRow rfl ?_;refine zba hk (λJ hJ=>by exact hJ) iB_NoNumber_NoName iB_NoSpan_NoName iB_NoCut_NoName iB_NoName_NoName rfl ?_;refine zba hk (λJ hJ=>by exact hJ) iB_NoNumber_TooMuch iB_NoSpan_TooMuch iB_NoCut_TooMuch iB_NoName_TooMuch rfl ?_;refine zba hk (λJ hJ=>by exact hJ) iB_NoNumber_NoTask iB_NoSpan_NoTask iB_NoCut_NoTask iB_NoName_NoTask rfl ?_;refine zba hk (λJ hJ=>by exact hJ) iB_NoNumber_NoBook iB_NoSpan_NoBook iB_NoCut_NoBook iB_NoName_NoBook rfl ?_;exact h
  ·exact h.elim⟩)
def zhG  (zdZ:Df K mg "_law_own" zcN zca)(zai:Eb K mg "NoName")(zaM:Ec K mg "BoxError")(zag:Ec K mg "NoCut")(zae:Ec K mg "NoSpan")(zaf:Ec K mg "NoNumber")(zeF:FkH P w K mg base 1 "_law_kinds" zcz (zcA zaf.c zae.c zag.c zai.c))(zaO:mg "range"=none)(zav:mg "isinstance"=none)(zbv:mg "ValueError"=none)(nx_NoName:Nx K zai.c)(iB_NoName_BoxError:PySem.W.kitOne K (.ref zai.c) (.ref zaM.c)=some true)(nx_NoCut:Nx K zag.c)(iB_NoCut_BoxError:PySem.W.kitOne K (.ref zag.c) (.ref zaM.c)=some true)(nx_NoSpan:Nx K zae.c)(iB_NoSpan_BoxError:PySem.W.kitOne K (.ref zae.c) (.ref zaM.c)=some true)(nx_NoNumber:Nx K zaf.c)(iB_NoNumber_BoxError:PySem.W.kitOne K (.ref zaf.c) (.ref zaM.c)=some true)(iT_NoName_ValueError:PySem.W.kitOne K (.ref zai.c) (.type "ValueError")=some true)(iT_NoCut_ValueError:PySem.W.kitOne K (.ref zag.c) (.type "ValueError")=some true)(iT_NoSpan_ValueError:PySem.W.kitOne K (.ref zae.c) (.type "ValueError")=some true)(iT_NoNumber_ValueError:PySem.W.kitOne K (.ref zaf.c) (.type "ValueError")=some true):FkH P w K mg base 2 "_law_own" zca (zb7 zaf.c zae.c zag.c zai.c):=
 zdZ.mkH (zga (k:=1) zdZ.F zg3 (zjE zaf.c zae.c zag.c zai.c) λcdv A outer s H E hr=>⟨_,(zaw (zaR (PDW.pt (ze7 (zc1 (zcG (zbl (ans:=zaJ K (.ref zaM.c) [zaf.c,zae.c,zag.c,zai.c]) (zbc (zam nx_NoNumber (zam nx_NoSpan (zam nx_NoCut (zam nx_NoName zbb))))) rfl zav rfl zaM.xc.bound (dv 0)))) (zf9 (zc1 (zcG (ziS (ans:=zaJ K (.type "ValueError") [zaf.c,zae.c,zag.c,zai.c]) (zbc (zam nx_NoNumber (zam nx_NoSpan (zam nx_NoCut (zam nx_NoName zbb))))) rfl zav rfl zbv Boot.«ValueError» (dv 0))))))) (zap (zax zbJ)) za5) (zap (zax (zcq (zkg hr) (zeI zeF (hr.mono (by decide)) zeS rfl (zaa (dv 0) zaj)) (zj0 (x:="_law_k") (N:=["_law_at"]) (caps:=[1]) (ar:=zak zcN) rfl csc rfl (by decide) rfl zaO (zaa zad zaj) (λ_ _ _ _ _ _=>zf4) (λ_ _ _ _ _ _=>(zcq (zjb hr) (dv 0) (dv 1) (zaH _)))) (zaH _))))),λds S Q ex h=>by
  unfold zb7 at h;split at h
  ·rename_i d a;obtain⟨k,hk,h⟩:=h;refine zba (v:=true) hk (λJ hJ=>by exact hJ) iB_NoNumber_BoxError iB_NoSpan_BoxError iB_NoCut_BoxError iB_NoName_BoxError (by rcases hk.cs with rfl | rfl | rfl | rfl <;> rfl) ?_;refine zba (v:=true) hk (λJ hJ=>by exact hJ) iT_NoNumber_ValueError iT_NoSpan_ValueError iT_NoCut_ValueError iT_NoName_ValueError (by rcases hk.cs with rfl | rfl | rfl | rfl <;> rfl) ?_;refine⟨k,hk,?_⟩;refine zgc (j:=8) (S1:=S++[.lst (tru k)]) (λi:Nat=>D.bl (decide ((i:Int)=a))) (λK hK=>by exact hK) ⟨by decide,by decide⟩ (λi hi S2 K _ hK=>hK) ?_;refine zkn (n:=S.length) (m:=(S++[Ob.lst (tru k)]).length) (xs:=tru k) (ys:=tru a) (zcp (by simp)) (by simp[tru]) (zil hk.cs a) ?_;rw[List.append_assoc];exact h _
  ·exact h.elim⟩)
def zht  (zc2:Df K mg "_law_asked" zcH zcU)(zaM:Ec K mg "BoxError")(zag:Ec K mg "NoCut")(zae:Ec K mg "NoSpan")(zaf:Ec K mg "NoNumber")(zai:Eb K mg "NoName")(zex:Fk P w K mg base 2 "fraction" zcu (zcg zaf.c))(zei:Fk P w K mg base 2 "span_of" zcI (zcO zae.c))(zeZ:Fk P w K mg base 2 "halves" zcW (zce zag.c))(zbX:FkH P w K mg base 2 "_law_own" zca (zb7 zaf.c zae.c zag.c zai.c))(zaO:mg "range"=none)(s_NoCut_BoxError:PySem.W.exmOne K (.ref zag.c) (.ref zaM.c)=some true)(s_NoSpan_BoxError:PySem.W.exmOne K (.ref zae.c) (.ref zaM.c)=some true)(s_NoNumber_BoxError:PySem.W.exmOne K (.ref zaf.c) (.ref zaM.c)=some true):Fk P w K mg base 3 "_law_asked" zcU (zcQ zaf.c zae.c zag.c):=
 zc2.mk' (za0 (k:=2) zc2.F zdg (zks zaf.c zae.c zag.c) λcdv A outer s H E hr=>⟨_,(zaw (zaL (i:=4) zdg.nd rfl (Or.inl rfl) (zfh (zaa zbJ (zaa zbJ (zaa zbJ zaj))))) (zaw (zhV (i:=5) (hit:=zbw [zaf.c,zae.c,zag.c]) rfl rfl rfl (λ_=>rfl) rfl zdg.nd rfl rfl zaM.xc.bound rfl (zeG s_NoNumber_BoxError (zeG s_NoSpan_BoxError (zeG s_NoCut_BoxError ziw))) (λpins xe ex W hx'=>(zap (zaR (zaX (zbq hr) (dv 0) zad (zaH _)) (zap (zff (za1 zex (hr.mono (by decide)) hx' rfl (zaa (dv 1) (zaa zad zaj))))) (zap (zaR (zaX (zbq hr) (dv 0) zad (zaH _)) (zap (zff (za1 zei (hr.mono (by decide)) hx' rfl (zaa (zbF (zaa (zal zbp (zal zbp (dv 1) zad) (dv 2)) (zaa zad zaj))) (zaa (zbF (zaa (dv 1) (zaa zad zaj))) (zaa (dv 3) zaj)))))) (zap (zff (za1 zeZ (hr.mono (by decide)) hx' rfl (zaa (zbF (zaa (dv 1) (zaa (zal zbp (dv 1) (zal zbe (dv 2) zad)) zaj))) zaj))))))))) (λA' xe' hA=>have hr:=hA _ hr; (zap (zjV (x:="_law_at") (N:=["_law_e"]) (caps:=[5]) (ar:=zak zcH) rfl csc rfl (by decide) (i:=4) zdg.nd rfl rfl rfl zaO (zaa zad zaj) (λ_ _ _ _ _ _=>zf4) (λ_ _ _ _ _ _=>(zeI zbX (hr.mono (by decide)) zeS rfl (zaa (dv 1) (zaa (dv 0) zaj)))))))) (zaw (zaR (zaX (zgZ hr) zbJ (dv 4) rfl) (zap (zax zhK)) za5) (zap (zax (zhR (k:=1) hr (by decide) (dv 4) (zaa zbJ zaj))))))),λds S Q ex h=>by
  unfold zcQ at h;split at h
  ·rename_i w n s g;obtain⟨⟨w0,w2⟩,⟨n0,n1⟩,⟨s0,s1⟩,h⟩:=h;have zn:Sz 200 n:=Sz.of (10^40) (by omega)
   have zm:Sz 200 (n+1+s):=Sz.of (2*10^40) (by omega)
   have z1:Sz 200 1:=Sz.of 1 (by decide);refine ifD (λc=>?_) (λc=>?_)
   ·refine .inl ⟨rfl,by simp[zbw],?_⟩;refine zew (S1:=S++[.lst [.bl false,.bl false,.bl false]]) (j:=3) (λi ys S2=>S2[(S++[Ob.lst [.bl false,.bl false,.bl false]]).length]?=some (.lst ys)∧ys=(List.range i).map λ(i:Nat)=>D.bl (decide (((0:Nat):Int)=(i:Int)))) (λK hK=>by exact hK) ⟨by decide,by decide⟩ (λi ys S2 w=>⟨w.1,by rw[w.2]; simp⟩) ⟨by simp,rfl⟩ (λi ys S2 K hi w hK=>?_) (λys S2 w=>?_)
    ·refine⟨0,by simp[KdX],λT=>?_⟩;obtain⟨w1,rfl⟩:=w;refine hK _ _ (zcp w1) ⟨?_,by rw[VaO,VaP]; rfl⟩;rw[Vai (Vaa (Vad.mp w1).1 (by rw[VaB]; omega))]
    ·obtain⟨w1,rfl⟩:=w;rw[show (3:Int).toNat=3 from rfl,tri] at w1;refine zeR w1 ?_;refine ifF rfl ?_;refine zeU (j:=0) (λK hK=>by exact hK) (λK hK=>by exact hK) w1 rfl ?_;have ew:w=((0:Nat):Int):=by omega
     rw[← ew];exact h _
   ·refine ifD (λc2=>?_) (λc2=>?_)
    ·refine⟨⟨zeH zn z1,zeH zm z1⟩,.inl ⟨by omega,by simp[zbw],?_⟩⟩;refine zew (S1:=S++[.lst [.bl false,.bl false,.bl false]]) (j:=3) (λi ys S2=>S2[(S++[Ob.lst [.bl false,.bl false,.bl false]]).length]?=some (.lst ys)∧ys=(List.range i).map λ(i:Nat)=>D.bl (decide (((1:Nat):Int)=(i:Int)))) (λK hK=>by exact hK) ⟨by decide,by decide⟩ (λi ys S2 w=>⟨w.1,by rw[w.2]; simp⟩) ⟨by simp,rfl⟩ (λi ys S2 K hi w hK=>?_) (λys S2 w=>?_)
     ·refine⟨1,by simp[KdX],λT=>?_⟩;obtain⟨w1,rfl⟩:=w;refine hK _ _ (zcp w1) ⟨?_,by rw[VaO,VaP]; rfl⟩;rw[Vai (Vaa (Vad.mp w1).1 (by rw[VaB]; omega))]
     ·obtain⟨w1,rfl⟩:=w;rw[show (3:Int).toNat=3 from rfl,tri] at w1;refine zeR w1 ?_;refine ifF rfl ?_;refine zeU (j:=1) (λK hK=>by exact hK) (λK hK=>by exact hK) w1 rfl ?_;have ew:w=((1:Nat):Int):=by omega
      rw[← ew];exact h _
    ·refine .inl ⟨by omega,by simp[zbw],?_⟩;refine zew (S1:=S++[.lst [.bl false,.bl false,.bl false]]) (j:=3) (λi ys S2=>S2[(S++[Ob.lst [.bl false,.bl false,.bl false]]).length]?=some (.lst ys)∧ys=(List.range i).map λ(i:Nat)=>D.bl (decide (((2:Nat):Int)=(i:Int)))) (λK hK=>by exact hK) ⟨by decide,by decide⟩ (λi ys S2 w=>⟨w.1,by rw[w.2]; simp⟩) ⟨by simp,rfl⟩ (λi ys S2 K hi w hK=>?_) (λys S2 w=>?_)
     ·refine⟨2,by simp[KdX],λT=>?_⟩;obtain⟨w1,rfl⟩:=w;refine hK _ _ (zcp w1) ⟨?_,by rw[VaO,VaP]; rfl⟩;rw[Vai (Vaa (Vad.mp w1).1 (by rw[VaB]; omega))]
     ·obtain⟨w1,rfl⟩:=w;rw[show (3:Int).toNat=3 from rfl,tri] at w1;refine zeR w1 ?_;refine ifF rfl ?_;refine zeU (j:=2) (λK hK=>by exact hK) (λK hK=>by exact hK) w1 rfl ?_;have ew:w=((2:Nat):Int):=by omega
      rw[← ew];exact h _
  ·exact h.elim⟩)
def zkb  (zd9:Df K mg "_law_text" zcM zcX)(zaO:mg "range"=none):Fk P w K mg base 1 "_law_text" zcX zcL:=
 zd9.mk' (fn_gc (za0 (k:=0) zd9.F zfT (ziG (zhh)) λcdv A outer s H E hr=>⟨_,(zaw (zaL (i:=2) zfT.nd rfl (Or.inr rfl) zcw) (zap (zax (zg0 zcw (zaa (ziz (x:="_law_k") (N:=["_law_letters","_law_cell"]) (caps:=[2,1]) (ar:=zak zcM) rfl rfl csc rfl (by decide) rfl zaO (zaa (dv 0) zaj) (λ_ _ _ _ _ _=>ziI) (λ_ _ _ _ _ _=>(zhv (dv 1) (zal zbe (zal zbp (zal zdI (dv 2) (zal zbp (dv 0) zad)) (dv 0)) zad) (λ_ _=>rfl)))) zaj))))),λds S Q ex h=>by
  obtain⟨Q0,ex0,rfl,rfl,h⟩:=h;unfold zcL at h;split at h
  ·rename_i n c;obtain⟨⟨n0,n9⟩,⟨c0,c6⟩,h⟩:=h;refine zhj (n:=S.length) (o:=.lst ((List.range n.toNat).map λ(i:Nat)=>D.str (ltr c i))) (S1:=S++[.lst ((List.range n.toNat).map λ(i:Nat)=>D.str (ltr c i))]) (zs:=(List.range n.toNat).map λ(i:Nat)=>ltr c i) (λK hK=>by exact hK) (λK hK=>?_) rfl (by simp) (zdS _ _) ?_ ?_ ?_
   ·refine zgc (j:=n) (S1:=S) (λ(i:Nat)=>D.str (ltr c i)) (λK hK=>by exact hK) ⟨n0,by omega⟩ (λi hi S2 K _ hK=>?_) hK;have hi9:(i:Int)<9:=by omega
    refine⟨⟨by omega,by
     have e:((i:Int)+1).natAbs=i+1:=by omega
     rw[e];have:=(VaJ (n:=i+1) (k:=4) (by omega)).mpr (by omega);omega⟩,?_⟩
    exact⟨_,⟨by omega,by omega,by rw[show ((Str.ofString "abcdefghijklmnopqrstuvwxyz").length:Int)=26 from by decide]; omega⟩,zi6 c i,hK⟩
   ·intro z hz;obtain⟨i,_,rfl⟩:=List.mem_map.mp hz;show 1≤8
    decide
   ·simp;omega
   ·exact⟨λk u e=>zcp e,.str _,h _⟩
  ·exact h.elim⟩))
def zh3 {fI:Addr}{fdI:FuncData}(zdC:Df K mg "law" zbR zd0)(zai:Eb K mg "NoName")(zaf:Ec K mg "NoNumber")(zae:Ec K mg "NoSpan")(zag:Ec K mg "NoCut")(zdb:Fk P w K mg base 3 "_law_asked" zcU (zcQ zaf.c zae.c zag.c))(zbX:FkH P w K mg base 2 "_law_own" zca (zb7 zaf.c zae.c zag.c zai.c))(ze6:Fk P w K mg base 1 "_law_text" zcX zcL)(zby:Fk P w K mg base 1 "_law_cell_at" zcT zcx)(zeJ:Fk P w K mg base 1 "_law_number" zcC zcl)(zav:mg "isinstance"=none)(zbn:mg "str"=none)(zcb:Kit K "str")(W_NoName:Wx K mg "NoName" zai.c fI VE "ValueError.__new__")(FI_NoName:zas P w K mg base (CXE P w) 2 fI fdI ["self","word"] (spI zai.c))(HB_NoName:zaD K fdI ["self","word"] []):Fk P w K mg base 4 "law" zd0 zb2:=
 zdC.mk' (za0 (k:=3) zdC.F zbN ziq λcdv A outer s H E hr=>⟨_,(zaw (zaL (i:=1) zbN.nd rfl (Or.inl rfl) (zal zbe (za8 zby hr (zaa (dv 0) (zaa zad zaj))) zad)) (zaw (zaL (i:=2) zbN.nd rfl (Or.inl rfl) (za8 zeJ hr (zaa (za8 zby hr (zaa (dv 0) (zaa zad zaj))) (zaa (za8 zby hr (zaa (dv 0) (zaa zad zaj))) zaj)))) (zaw (zaL (i:=3) zbN.nd rfl (Or.inl rfl) (zal zcF (za8 zby hr (zaa (dv 0) (zaa zad zaj))) (zal zdX zad zad))) (zaw (zaL (i:=4) zbN.nd rfl (Or.inl rfl) (zal zbp zad (zal zbe (za8 zby hr (zaa (dv 0) (zaa zad zaj))) zad))) (zaw (zaR (zaX (zbq hr) (dv 1) zad (zaH _)) (zaw (zaL (i:=5) zbN.nd rfl (Or.inl rfl) (za8 ze6 hr (zaa (zal zbe (dv 3) zad) (zaa (zal zcF (za8 zby hr (zaa (dv 0) (zaa zad zaj))) (zal zdX zad zad)) zaj)))) (zaw (zaL (i:=6) zbN.nd rfl (Or.inl rfl) (zhE W_NoName PySem.F.excBase_ValueError FI_NoName (hr.mono (by decide)) rfl HB_NoName (zaa (dv 5) zaj))) (zap (zax (zeM (zeI zbX ((ziD hr).mono (by decide)) (λ_ _=>.inl hr.hd) rfl (zaa (dv 6) (zaa zad zaj))) (zeM (zeD zcb rfl zav rfl zbn Boot.«str» (zgp W_NoName (dv 6))) (zfB (zcq (zbq hr) (zgp W_NoName (dv 6)) (dv 5) (zaH _))))))))) za5) (zaw (zaR (zaX (zfl hr) (za8 zdb hr (zaa (dv 1) (zaa (dv 2) (zaa (dv 3) (zaa (dv 4) zaj))))) (dv 1) (zaH _)) (zap (zax zbJ)) za5) (zap (zax (zcq (zbq hr) (za8 zdb hr (zaa (dv 1) (zaa (dv 2) (zaa (dv 3) (zaa (dv 4) zaj))))) (dv 1) (zaH _)))))))))),λds S Q ex h=>by
  obtain⟨ns,rfl,rfl,hl,h⟩:=h;refine⟨ns,rfl,by decide,?_⟩;refine⟨ns,rfl,by decide,⟨ns,rfl,by decide,?_⟩⟩;intro x x1 x2;refine⟨ns,rfl,by decide,?_⟩;have p20:(0:Int)<10^Int.toNat 20:=by decide
  have p6:(0:Int)<10^Int.toNat 6:=by decide
  refine⟨p20,?_⟩;refine⟨ns,rfl,by decide,?_⟩;refine ifD (λc=>?_) (λc=>?_)
  ·refine⟨ns,rfl,by decide,?_⟩;refine⟨p6,?_⟩;refine⟨⟨by omega,by omega⟩,⟨VaK _ (VaX p6),VaL _ p6⟩,λz=>?_⟩;refine⟨4,⟨rfl,rfl⟩,λT=>?_⟩;refine ifT (by decide) ?_;refine⟨rfl,?_⟩;refine ifT rfl ?_;refine⟨rfl,?_⟩;show Q (.bl (decide (z=z))) _;rw[decide_eq_true rfl];exact h _
  ·refine⟨⟨by omega,by omega⟩,⟨x1,x2⟩,⟨VaK _ (VaX p20),VaL _ p20⟩,λS'=>?_⟩;refine ifF (by simp) ?_;refine⟨⟨by omega,by omega⟩,⟨x1,x2⟩,⟨VaK _ (VaX p20),VaL _ p20⟩,λS'=>?_⟩;show Q (.bl (decide (_=_))) _;rw[decide_eq_true rfl];exact h _⟩)
end
theorem zhQ {l:PySem.W.OpenLaw}{w:World}{K:PySem.W.Frag}{h:Heap}{mg:Str→Option Value}{fa:Addr}(X:K.In h)(G:h.Ns mainGlobals mg)(hfa:mg "law"=some (.ref fa))
  {f0 h0:Addr}{m0:Value}(a0:nsA K "is_whole" f0)(l0:lkA K f0 "is_whole" "is_whole" zdq m0 h0)(c0:cdA K h0 "is_whole")
  {f1 h1:Addr}{m1:Value}(a1:nsA K "greatest_divisor" f1)(l1:lkA K f1 "greatest_divisor" "greatest_divisor" zdx m1 h1)(c1:cdA K h1 "greatest_divisor")
  {f2 h2:Addr}{m2:Value}(a2:nsA K "fraction" f2)(l2:lkA K f2 "fraction" "fraction" zdT m2 h2)(c2:cdA K h2 "fraction")
  {f3 h3:Addr}{m3:Value}(a3:nsA K "less" f3)(l3:lkA K f3 "less" "less" zdu m3 h3)(c3:cdA K h3 "less")
  {f4 h4:Addr}{m4:Value}(a4:nsA K "rounded_up" f4)(l4:lkA K f4 "rounded_up" "rounded_up" zdl m4 h4)(c4:cdA K h4 "rounded_up")
  {f5 h5:Addr}{m5:Value}(a5:nsA K "span_of" f5)(l5:lkA K f5 "span_of" "span_of" zdd m5 h5)(c5:cdA K h5 "span_of")
  {f6 h6:Addr}{m6:Value}(a6:nsA K "width" f6)(l6:lkA K f6 "width" "width" zda m6 h6)(c6:cdA K h6 "width")
  {f7 h7:Addr}{m7:Value}(a7:nsA K "middle" f7)(l7:lkA K f7 "middle" "middle" zee m7 h7)(c7:cdA K h7 "middle")
  {f8 h8:Addr}{m8:Value}(a8:nsA K "halves" f8)(l8:lkA K f8 "halves" "halves" zdQ m8 h8)(c8:cdA K h8 "halves")
  {f9 h9:Addr}{m9:Value}(a9:nsA K "_law_cell_at" f9)(l9:lkA K f9 "_law_cell_at" "_law_cell_at" zeb m9 h9)(c9:cdA K h9 "_law_cell_at")
  {f10 h10:Addr}{m10:Value}(a10:nsA K "_law_number" f10)(l10:lkA K f10 "_law_number" "_law_number" zeg m10 h10)(c10:cdA K h10 "_law_number")
  {f11 h11:Addr}{m11:Value}(a11:nsA K "_law_kinds" f11)(l11:lkA K f11 "_law_kinds" "_law_kinds" zdL m11 h11)(c11:cdA K h11 "_law_kinds")
  {f12 h12:Addr}{m12:Value}(a12:nsA K "_law_own" f12)(l12:lkA K f12 "_law_own" "_law_own" zcN m12 h12)(c12:cdA K h12 "_law_own")
  {f13 h13:Addr}{m13:Value}(a13:nsA K "_law_asked" f13)(l13:lkA K f13 "_law_asked" "_law_asked" zcH m13 h13)(c13:cdA K h13 "_law_asked")
  {f14 h14:Addr}{m14:Value}(a14:nsA K "_law_text" f14)(l14:lkA K f14 "_law_text" "_law_text" zcM m14 h14)(c14:cdA K h14 "_law_text")
  {f15 h15:Addr}{m15:Value}(a15:nsA K "law" f15)(l15:lkA K f15 "law" "law" zbR m15 h15)(c15:cdA K h15 "law")
  (zav:PySem.W.nsIn K mainGlobals "isinstance"=some none)
  (zbo:PySem.W.nsIn K mainGlobals "bool"=some none)
  (zbH:PySem.W.nsIn K mainGlobals "int"=some none)
  (zbk:PySem.W.nsIn K mainGlobals "abs"=some none)
  (zbs:PySem.W.nsIn K mainGlobals "len"=some none)
  (zaO:PySem.W.nsIn K mainGlobals "range"=some none)
  (zbv:PySem.W.nsIn K mainGlobals "ValueError"=some none)
  (zbn:PySem.W.nsIn K mainGlobals "str"=some none)
  (zbV:Kit K "bool")
  (zb8:Kit K "int")
  (zcb:Kit K "str")
  {e_NoNumber:Addr}(n_NoNumber:PySem.W.nsIn K mainGlobals "NoNumber"=some (some (.ref e_NoNumber)))(x_NoNumber:PySem.W.excIn K e_NoNumber VE "ValueError.__new__"=true)
  {e_NoSpan:Addr}(n_NoSpan:PySem.W.nsIn K mainGlobals "NoSpan"=some (some (.ref e_NoSpan)))(x_NoSpan:PySem.W.excIn K e_NoSpan VE "ValueError.__new__"=true)
  {e_NoCut:Addr}(n_NoCut:PySem.W.nsIn K mainGlobals "NoCut"=some (some (.ref e_NoCut)))(x_NoCut:PySem.W.excIn K e_NoCut VE "ValueError.__new__"=true)
  {e_NoBook:Addr}(n_NoBook:PySem.W.nsIn K mainGlobals "NoBook"=some (some (.ref e_NoBook)))(x_NoBook:PySem.W.excIn K e_NoBook VE "ValueError.__new__"=true)
  {e_NoName:Addr}(n_NoName:PySem.W.nsIn K mainGlobals "NoName"=some (some (.ref e_NoName)))
  {e_NoTask:Addr}(n_NoTask:PySem.W.nsIn K mainGlobals "NoTask"=some (some (.ref e_NoTask)))(x_NoTask:PySem.W.excIn K e_NoTask VE "ValueError.__new__"=true)
  {e_TooMuch:Addr}(n_TooMuch:PySem.W.nsIn K mainGlobals "TooMuch"=some (some (.ref e_TooMuch)))(x_TooMuch:PySem.W.excIn K e_TooMuch VE "ValueError.__new__"=true)
  {e_NoRow:Addr}(n_NoRow:PySem.W.nsIn K mainGlobals "NoRow"=some (some (.ref e_NoRow)))(x_NoRow:PySem.W.excIn K e_NoRow VE "ValueError.__new__"=true)
  {e_BoxError:Addr}(n_BoxError:PySem.W.nsIn K mainGlobals "BoxError"=some (some (.ref e_BoxError)))(x_BoxError:PySem.W.excIn K e_BoxError VE "ValueError.__new__"=true)
  (s_NoCut_BoxError:PySem.W.exmOne K (.ref e_NoCut) (.ref e_BoxError)=some true)
  (s_NoSpan_BoxError:PySem.W.exmOne K (.ref e_NoSpan) (.ref e_BoxError)=some true)
  (s_NoNumber_BoxError:PySem.W.exmOne K (.ref e_NoNumber) (.ref e_BoxError)=some true)
  (iT_NoName_ValueError:PySem.W.kitOne K (.ref e_NoName) (.type "ValueError")=some true)
  (iT_NoCut_ValueError:PySem.W.kitOne K (.ref e_NoCut) (.type "ValueError")=some true)
  (iT_NoSpan_ValueError:PySem.W.kitOne K (.ref e_NoSpan) (.type "ValueError")=some true)
  (iT_NoNumber_ValueError:PySem.W.kitOne K (.ref e_NoNumber) (.type "ValueError")=some true)
  (iB_NoName_NoBook:PySem.W.kitOne K (.ref e_NoName) (.ref e_NoBook)=some false)
  (iB_NoCut_NoBook:PySem.W.kitOne K (.ref e_NoCut) (.ref e_NoBook)=some false)
  (iB_NoSpan_NoBook:PySem.W.kitOne K (.ref e_NoSpan) (.ref e_NoBook)=some false)
  (iB_NoNumber_NoBook:PySem.W.kitOne K (.ref e_NoNumber) (.ref e_NoBook)=some false)
  (iB_NoName_NoTask:PySem.W.kitOne K (.ref e_NoName) (.ref e_NoTask)=some false)
  (iB_NoCut_NoTask:PySem.W.kitOne K (.ref e_NoCut) (.ref e_NoTask)=some false)
  (iB_NoSpan_NoTask:PySem.W.kitOne K (.ref e_NoSpan) (.ref e_NoTask)=some false)
  (iB_NoNumber_NoTask:PySem.W.kitOne K (.ref e_NoNumber) (.ref e_NoTask)=some false)
  (iB_NoName_TooMuch:PySem.W.kitOne K (.ref e_NoName) (.ref e_TooMuch)=some false)
  (iB_NoCut_TooMuch:PySem.W.kitOne K (.ref e_NoCut) (.ref e_TooMuch)=some false)
  (iB_NoSpan_TooMuch:PySem.W.kitOne K (.ref e_NoSpan) (.ref e_TooMuch)=some false)
  (iB_NoNumber_TooMuch:PySem.W.kitOne K (.ref e_NoNumber) (.ref e_TooMuch)=some false)
  (iB_NoName_NoName:PySem.W.kitOne K (.ref e_NoName) (.ref e_NoName)=some true)
  (iB_NoCut_NoName:PySem.W.kitOne K (.ref e_NoCut) (.ref e_NoName)=some false)
  (iB_NoSpan_NoName:PySem.W.kitOne K (.ref e_NoSpan) (.ref e_NoName)=some false)
  (iB_NoNumber_NoName:PySem.W.kitOne K (.ref e_NoNumber) (.ref e_NoName)=some false)
  (iB_NoName_NoRow:PySem.W.kitOne K (.ref e_NoName) (.ref e_NoRow)=some false)
  (iB_NoCut_NoRow:PySem.W.kitOne K (.ref e_NoCut) (.ref e_NoRow)=some false)
  (iB_NoSpan_NoRow:PySem.W.kitOne K (.ref e_NoSpan) (.ref e_NoRow)=some false)
  (iB_NoNumber_NoRow:PySem.W.kitOne K (.ref e_NoNumber) (.ref e_NoRow)=some false)
  (iB_NoName_NoCut:PySem.W.kitOne K (.ref e_NoName) (.ref e_NoCut)=some false)
  (iB_NoCut_NoCut:PySem.W.kitOne K (.ref e_NoCut) (.ref e_NoCut)=some true)
  (iB_NoSpan_NoCut:PySem.W.kitOne K (.ref e_NoSpan) (.ref e_NoCut)=some false)
  (iB_NoNumber_NoCut:PySem.W.kitOne K (.ref e_NoNumber) (.ref e_NoCut)=some false)
  (iB_NoName_NoSpan:PySem.W.kitOne K (.ref e_NoName) (.ref e_NoSpan)=some false)
  (iB_NoCut_NoSpan:PySem.W.kitOne K (.ref e_NoCut) (.ref e_NoSpan)=some false)
  (iB_NoSpan_NoSpan:PySem.W.kitOne K (.ref e_NoSpan) (.ref e_NoSpan)=some true)
  (iB_NoNumber_NoSpan:PySem.W.kitOne K (.ref e_NoNumber) (.ref e_NoSpan)=some false)
  (iB_NoName_NoNumber:PySem.W.kitOne K (.ref e_NoName) (.ref e_NoNumber)=some false)
  (iB_NoCut_NoNumber:PySem.W.kitOne K (.ref e_NoCut) (.ref e_NoNumber)=some false)
  (iB_NoSpan_NoNumber:PySem.W.kitOne K (.ref e_NoSpan) (.ref e_NoNumber)=some false)
  (iB_NoNumber_NoNumber:PySem.W.kitOne K (.ref e_NoNumber) (.ref e_NoNumber)=some true)
  (iB_NoName_BoxError:PySem.W.kitOne K (.ref e_NoName) (.ref e_BoxError)=some true)
  (iB_NoCut_BoxError:PySem.W.kitOne K (.ref e_NoCut) (.ref e_BoxError)=some true)
  (iB_NoSpan_BoxError:PySem.W.kitOne K (.ref e_NoSpan) (.ref e_BoxError)=some true)
  (iB_NoNumber_BoxError:PySem.W.kitOne K (.ref e_NoNumber) (.ref e_BoxError)=some true)
  (nxga_NoName:PySem.W.findIn K (.ref e_NoName) "__getattribute__"=some (some (.builtin "BaseException.__getattribute__")))(nxhk_NoName:PySem.W.findIn K (.ref e_NoName) "__getattr__"=some none)(nxha_NoName:PySem.W.findIn K (.ref e_NoName) "__class__"=some (some (.builtin "object.__class__")))(nxhm_NoName:PySem.W.mroIn K e_NoName (.type "object")=some true)(nxhb_NoName:PySem.W.mroIn K e_NoName (.type "BaseException")=some true)
  (nxga_NoCut:PySem.W.findIn K (.ref e_NoCut) "__getattribute__"=some (some (.builtin "BaseException.__getattribute__")))(nxhk_NoCut:PySem.W.findIn K (.ref e_NoCut) "__getattr__"=some none)(nxha_NoCut:PySem.W.findIn K (.ref e_NoCut) "__class__"=some (some (.builtin "object.__class__")))(nxhm_NoCut:PySem.W.mroIn K e_NoCut (.type "object")=some true)(nxhb_NoCut:PySem.W.mroIn K e_NoCut (.type "BaseException")=some true)
  (nxga_NoSpan:PySem.W.findIn K (.ref e_NoSpan) "__getattribute__"=some (some (.builtin "BaseException.__getattribute__")))(nxhk_NoSpan:PySem.W.findIn K (.ref e_NoSpan) "__getattr__"=some none)(nxha_NoSpan:PySem.W.findIn K (.ref e_NoSpan) "__class__"=some (some (.builtin "object.__class__")))(nxhm_NoSpan:PySem.W.mroIn K e_NoSpan (.type "object")=some true)(nxhb_NoSpan:PySem.W.mroIn K e_NoSpan (.type "BaseException")=some true)
  (nxga_NoNumber:PySem.W.findIn K (.ref e_NoNumber) "__getattribute__"=some (some (.builtin "BaseException.__getattribute__")))(nxhk_NoNumber:PySem.W.findIn K (.ref e_NoNumber) "__getattr__"=some none)(nxha_NoNumber:PySem.W.findIn K (.ref e_NoNumber) "__class__"=some (some (.builtin "object.__class__")))(nxhm_NoNumber:PySem.W.mroIn K e_NoNumber (.type "object")=some true)(nxhb_NoNumber:PySem.W.mroIn K e_NoNumber (.type "BaseException")=some true)
  (nxhn:PySem.W.specialIn K (.builtin "object.__class__") "__get__"=some (some (.builtin "getset_descriptor.__get__")))(nxht:PySem.W.takesIn K (.builtin "object.__class__")=some true)
  {fI hI:Addr}{mI:Value}(aI:fdA K e_NoName "__init__" fI)(lI:lkA K fI "__init__" "NoName.__init__" zeA mI hI)(cI:cdA K hI "NoName.__init__")(xI:excW K e_NoName VE "ValueError.__new__" fI=true)(kI:PySem.W.keepIn K (.ref e_NoName)=true)
  (saI:PySem.W.findIn K (.ref e_NoName) "__setattr__"=some (some (.builtin "object.__setattr__")))(twI:zeh K e_NoName=true)(hdI:PySem.W.hasDictIn K e_NoName=true)(naI:PySem.W.findIn K (.ref e_NoName) "word"=some none)
  :∃fd:FuncData,(∀(s:Shared) (v:Value),BindsTo s fd ⟨[v],[]⟩ [("_law_script",v)])∧∀base:Heap,K.In base→base.Ns mainGlobals mg→zas l.prog w K mg base (CXE l.prog w) 4 fa fd ["_law_script"] (upF K zb2):=by
 have e:=hfa.symm.trans (PySem.W.mg_of X G a15);cases e
 let zdj:Df K mg "is_whole" zdq zcS:=dfo X G a0 l0 c0 λ_ _ _ _ _ _=>ln1 λ_=>rfl
 let zdk:Df K mg "greatest_divisor" zdx zcR:=dfo X G a1 l1 c1 λ_ _ _ _ _ _=>ln2 λ_ _=>rfl
 let zdD:Df K mg "fraction" zdT zcu:=dfo X G a2 l2 c2 λ_ _ _ _ _ _=>ln2 λ_ _=>rfl
 let zc3:Df K mg "less" zdu zcE:=dfo X G a3 l3 c3 λ_ _ _ _ _ _=>ln2 λ_ _=>rfl
 let zef:Df K mg "rounded_up" zdl zcj:=dfo X G a4 l4 c4 λ_ _ _ _ _ _=>ln2 λ_ _=>rfl
 let zdv:Df K mg "span_of" zdd zcI:=dfo X G a5 l5 c5 λ_ _ _ _ _ _=>ln3 λ_ _ _=>rfl
 let zc9:Df K mg "width" zda zcr:=dfo X G a6 l6 c6 λ_ _ _ _ _ _=>ln1 λ_=>rfl
 let zd7:Df K mg "middle" zee zcv:=dfo X G a7 l7 c7 λ_ _ _ _ _ _=>ln1 λ_=>rfl
 let zdi:Df K mg "halves" zdQ zcW:=dfo X G a8 l8 c8 λ_ _ _ _ _ _=>ln1 λ_=>rfl
 let zdr:Df K mg "_law_cell_at" zeb zcT:=dfo X G a9 l9 c9 λ_ _ _ _ _ _=>ln2 λ_ _=>rfl
 let zd1:Df K mg "_law_number" zeg zcC:=dfo X G a10 l10 c10 λ_ _ _ _ _ _=>ln2 λ_ _=>rfl
 let zdY:Df K mg "_law_kinds" zdL zcz:=dfo X G a11 l11 c11 λ_ _ _ _ _ _=>ln1 λ_=>rfl
 let zdZ:Df K mg "_law_own" zcN zca:=dfo X G a12 l12 c12 λ_ _ _ _ _ _=>ln2 λ_ _=>rfl
 let zc2:Df K mg "_law_asked" zcH zcU:=dfo X G a13 l13 c13 λ_ _ _ _ _ _=>ln4 λ_ _ _ _=>rfl
 let zd9:Df K mg "_law_text" zcM zcX:=dfo X G a14 l14 c14 λ_ _ _ _ _ _=>ln2 λ_ _=>rfl
 let zdC:Df K mg "law" zbR zd0:=dfo X G a15 l15 c15 λ_ _ _ _ _ _=>ln1 λ_=>rfl
 have zav:=PySem.W.mg_none_of X G zav
 have zbo:=PySem.W.mg_none_of X G zbo
 have zbH:=PySem.W.mg_none_of X G zbH
 have zbk:=PySem.W.mg_none_of X G zbk
 have zbs:=PySem.W.mg_none_of X G zbs
 have zaO:=PySem.W.mg_none_of X G zaO
 have zbv:=PySem.W.mg_none_of X G zbv
 have zbn:=PySem.W.mg_none_of X G zbn
 let zaf:Ec K mg "NoNumber":=⟨e_NoNumber,PySem.W.mg_of X G n_NoNumber,x_NoNumber⟩
 let zae:Ec K mg "NoSpan":=⟨e_NoSpan,PySem.W.mg_of X G n_NoSpan,x_NoSpan⟩
 let zag:Ec K mg "NoCut":=⟨e_NoCut,PySem.W.mg_of X G n_NoCut,x_NoCut⟩
 let zbr:Ec K mg "NoBook":=⟨e_NoBook,PySem.W.mg_of X G n_NoBook,x_NoBook⟩
 let zai:Eb K mg "NoName":=⟨e_NoName,PySem.W.mg_of X G n_NoName⟩
 let zbD:Ec K mg "NoTask":=⟨e_NoTask,PySem.W.mg_of X G n_NoTask,x_NoTask⟩
 let zbG:Ec K mg "TooMuch":=⟨e_TooMuch,PySem.W.mg_of X G n_TooMuch,x_TooMuch⟩
 let zbx:Ec K mg "NoRow":=⟨e_NoRow,PySem.W.mg_of X G n_NoRow,x_NoRow⟩
 let zaM:Ec K mg "BoxError":=⟨e_BoxError,PySem.W.mg_of X G n_BoxError,x_BoxError⟩
 have nx_NoName:Nx K zai.c:=⟨nxga_NoName,nxhk_NoName,nxha_NoName,nxhn,nxht,nxhm_NoName,nxhb_NoName⟩
 have nx_NoCut:Nx K zag.c:=⟨nxga_NoCut,nxhk_NoCut,nxha_NoCut,nxhn,nxht,nxhm_NoCut,nxhb_NoCut⟩
 have nx_NoSpan:Nx K zae.c:=⟨nxga_NoSpan,nxhk_NoSpan,nxha_NoSpan,nxhn,nxht,nxhm_NoSpan,nxhb_NoSpan⟩
 have nx_NoNumber:Nx K zaf.c:=⟨nxga_NoNumber,nxhk_NoNumber,nxha_NoNumber,nxhn,nxht,nxhm_NoNumber,nxhb_NoNumber⟩
 let zdc:Dm K e_NoName "__init__" "NoName.__init__" zeA ["self","word"]:=dmo aI lI cI λ_ _ _ _ _ _=>ln2 λ_ _=>rfl
 have W_NoName:Wx K mg "NoName" zai.c zdc.f VE "ValueError.__new__":=⟨zai.bound,kI,xI,zdc.m.fn,saI,twI,hdI,naI,nx_NoName⟩;refine⟨PySem.W.fnOf "law" "law" (zbO zbR) (zaW zbR) (zak zbR) .none .none .none m15 none (.ref h15) .none,λs v=>.of_eq rfl,λbase _ _=>?_⟩
 let zdA:=zjO (P:=l.prog) (w:=w) (base:=base) zdj zav zbo zbH zbV zb8
 let ze1:=zhT (P:=l.prog) (w:=w) (base:=base) zdk
 let zex:=zjv (P:=l.prog) (w:=w) (base:=base) zdD zaf ze1 zdA zbk
 let zfb:=zhD (P:=l.prog) (w:=w) (base:=base) zc3
 let zfd:=zi7 (P:=l.prog) (w:=w) (base:=base) zef
 let zei:=ziJ (P:=l.prog) (w:=w) (base:=base) zdv zae zfd zfb
 let ze8:=zkc (P:=l.prog) (w:=w) (base:=base) zc9
 let zeo:=zjK (P:=l.prog) (w:=w) (base:=base) zd7
 let zeZ:=zir (P:=l.prog) (w:=w) (base:=base) zdi zag zeo ze8
 let zby:=zhP (P:=l.prog) (w:=w) (base:=base) zdr zbs
 let zeJ:=zjk (P:=l.prog) (w:=w) (base:=base) zd1
 let zeF:=zim (P:=l.prog) (w:=w) (base:=base) zdY zbr zai zag zae zaf zbD zbG zbx zav nx_NoName iB_NoName_NoBook nx_NoCut iB_NoCut_NoBook nx_NoSpan iB_NoSpan_NoBook nx_NoNumber iB_NoNumber_NoBook iB_NoName_NoTask iB_NoCut_NoTask iB_NoSpan_NoTask iB_NoNumber_NoTask iB_NoName_TooMuch iB_NoCut_TooMuch iB_NoSpan_TooMuch iB_NoNumber_TooMuch iB_NoName_NoName iB_NoCut_NoName iB_NoSpan_NoName iB_NoNumber_NoName iB_NoName_NoRow iB_NoCut_NoRow iB_NoSpan_NoRow iB_NoNumber_NoRow iB_NoName_NoCut iB_NoCut_NoCut iB_NoSpan_NoCut iB_NoNumber_NoCut iB_NoName_NoSpan iB_NoCut_NoSpan iB_NoSpan_NoSpan iB_NoNumber_NoSpan iB_NoName_NoNumber iB_NoCut_NoNumber iB_NoSpan_NoNumber iB_NoNumber_NoNumber
 let zbX:=zhG (P:=l.prog) (w:=w) (base:=base) zdZ zai zaM zag zae zaf zeF zaO zav zbv nx_NoName iB_NoName_BoxError nx_NoCut iB_NoCut_BoxError nx_NoSpan iB_NoSpan_BoxError nx_NoNumber iB_NoNumber_BoxError iT_NoName_ValueError iT_NoCut_ValueError iT_NoSpan_ValueError iT_NoNumber_ValueError
 let zdb:=zht (P:=l.prog) (w:=w) (base:=base) zc2 zaM zag zae zaf zai zex zei zeZ zbX zaO s_NoCut_BoxError s_NoSpan_BoxError s_NoNumber_BoxError
 let ze6:=zkb (P:=l.prog) (w:=w) (base:=base) zd9 zaO
 have FI_NoName:=zj7 (P:=l.prog) (w:=w) (base:=base) (k:=1) W_NoName zdc.F zgU rfl (.inl rfl) (.inl rfl)
 have HB_NoName:=zdc.b
 let G_law:=zh3 (P:=l.prog) (w:=w) (base:=base) zdC zai zaf zae zag zdb zbX ze6 zby zeJ zav zbn zcb W_NoName FI_NoName HB_NoName
 exact G_law.ok
end Mine
open PySem PySem.W PyProof.Rows
set_option maxRecDepth 100003 in
set_option maxHeartbeats 0 in
theorem PySem.Challenge.cw_boxnarrow_k10_what_is_refused_holds : PySem.Challenge.rw_boxnarrow_k10_what_is_refused.Holds := by
 w_on; o_law
 refine PySem.W.holds_open (q:=Mine.vw) (loose:=[]) (Xt:=Mine.xt) (XP:=XL Mine.vw []) (Yf:=Hook.obs (kHook Mine.kp Mine.ks Mine.zb5)) (Ya:=Hook.val (kHook Mine.kp Mine.ks Mine.zb5))
  (YP:=Hook.says (kHook Mine.kp Mine.ks Mine.zb5)) (N:=4986) Mine.left (Hook.of (kHook Mine.kp Mine.ks Mine.zb5)) (Hook.keeps (kHook Mine.kp Mine.ks Mine.zb5)) (λs e=>xl_of s (VaN.mp e).1) XL.keeps
  (by rfl) (by rfl) (by rfl) (λs e=>recFacts_of (VaN.mp e).2) (by rfl) (by first | assumption | decide +kernel)
  (by decide +kernel) ⟨rfl,rfl,rfl,rfl,rfl,by decide +kernel⟩ ?hw ?hc
 (case hw=>w_witness2)
 k_fill
 refine L3.zhS (l:=PySem.Challenge.rw_boxnarrow_k10_what_is_refused) (x:="_law_script") 4 rfl rfl ⟨rfl,by decide,by decide⟩ (λw h Y=>PySem.W.kIn_of Y) ?F
 case F=>
  intro w mg fa h KX G hmg;refine' Mine.zhQ KX G hmg (aI:=?aI) (lI:=?lI) (cI:=?cI) (xI:=?xI) (kI:=?kI) (saI:=?saI) (twI:=?twI) (hdI:=?hdI) (naI:=?naI) (a0:=?a0) (l0:=?l0) (c0:=?c0) (a1:=?a1) (l1:=?l1) (c1:=?c1) (a2:=?a2) (l2:=?l2) (c2:=?c2) (a3:=?a3) (l3:=?l3) (c3:=?c3) (a4:=?a4) (l4:=?l4) (c4:=?c4) (a5:=?a5) (l5:=?l5) (c5:=?c5) (a6:=?a6) (l6:=?l6) (c6:=?c6) (a7:=?a7) (l7:=?l7) (c7:=?c7) (a8:=?a8) (l8:=?l8) (c8:=?c8) (a9:=?a9) (l9:=?l9) (c9:=?c9) (a10:=?a10) (l10:=?l10) (c10:=?c10) (a11:=?a11) (l11:=?l11) (c11:=?c11) (a12:=?a12) (l12:=?l12) (c12:=?c12) (a13:=?a13) (l13:=?l13) (c13:=?c13) (a14:=?a14) (l14:=?l14) (c14:=?c14) (a15:=?a15) (l15:=?l15) (c15:=?c15) (zav:=?zav) (zbo:=?zbo) (zbH:=?zbH) (zbk:=?zbk) (zbs:=?zbs) (zaO:=?zaO) (zbv:=?zbv) (zbn:=?zbn) (n_NoNumber:=?n_NoNumber) (x_NoNumber:=?x_NoNumber) (n_NoSpan:=?n_NoSpan) (x_NoSpan:=?x_NoSpan) (n_NoCut:=?n_NoCut) (x_NoCut:=?x_NoCut) (n_NoBook:=?n_NoBook) (x_NoBook:=?x_NoBook) (n_NoName:=?n_NoName) (n_NoTask:=?n_NoTask) (x_NoTask:=?x_NoTask) (n_TooMuch:=?n_TooMuch) (x_TooMuch:=?x_TooMuch) (n_NoRow:=?n_NoRow) (x_NoRow:=?x_NoRow) (n_BoxError:=?n_BoxError) (x_BoxError:=?x_BoxError) (s_NoCut_BoxError:=?s_NoCut_BoxError) (s_NoSpan_BoxError:=?s_NoSpan_BoxError) (s_NoNumber_BoxError:=?s_NoNumber_BoxError) (iT_NoName_ValueError:=?iT_NoName_ValueError) (iT_NoCut_ValueError:=?iT_NoCut_ValueError) (iT_NoSpan_ValueError:=?iT_NoSpan_ValueError) (iT_NoNumber_ValueError:=?iT_NoNumber_ValueError) (iB_NoName_NoBook:=?iB_NoName_NoBook) (iB_NoCut_NoBook:=?iB_NoCut_NoBook) (iB_NoSpan_NoBook:=?iB_NoSpan_NoBook) (iB_NoNumber_NoBook:=?iB_NoNumber_NoBook) (iB_NoName_NoTask:=?iB_NoName_NoTask) (iB_NoCut_NoTask:=?iB_NoCut_NoTask) (iB_NoSpan_NoTask:=?iB_NoSpan_NoTask) (iB_NoNumber_NoTask:=?iB_NoNumber_NoTask) (iB_NoName_TooMuch:=?iB_NoName_TooMuch) (iB_NoCut_TooMuch:=?iB_NoCut_TooMuch) (iB_NoSpan_TooMuch:=?iB_NoSpan_TooMuch) (iB_NoNumber_TooMuch:=?iB_NoNumber_TooMuch) (iB_NoName_NoName:=?iB_NoName_NoName) (iB_NoCut_NoName:=?iB_NoCut_NoName) (iB_NoSpan_NoName:=?iB_NoSpan_NoName) (iB_NoNumber_NoName:=?iB_NoNumber_NoName) (iB_NoName_NoRow:=?iB_NoName_NoRow) (iB_NoCut_NoRow:=?iB_NoCut_NoRow) (iB_NoSpan_NoRow:=?iB_NoSpan_NoRow) (iB_NoNumber_NoRow:=?iB_NoNumber_NoRow) (iB_NoName_NoCut:=?iB_NoName_NoCut) (iB_NoCut_NoCut:=?iB_NoCut_NoCut) (iB_NoSpan_NoCut:=?iB_NoSpan_NoCut) (iB_NoNumber_NoCut:=?iB_NoNumber_NoCut) (iB_NoName_NoSpan:=?iB_NoName_NoSpan) (iB_NoCut_NoSpan:=?iB_NoCut_NoSpan) (iB_NoSpan_NoSpan:=?iB_NoSpan_NoSpan) (iB_NoNumber_NoSpan:=?iB_NoNumber_NoSpan) (iB_NoName_NoNumber:=?iB_NoName_NoNumber) (iB_NoCut_NoNumber:=?iB_NoCut_NoNumber) (iB_NoSpan_NoNumber:=?iB_NoSpan_NoNumber) (iB_NoNumber_NoNumber:=?iB_NoNumber_NoNumber) (iB_NoName_BoxError:=?iB_NoName_BoxError) (iB_NoCut_BoxError:=?iB_NoCut_BoxError) (iB_NoSpan_BoxError:=?iB_NoSpan_BoxError) (iB_NoNumber_BoxError:=?iB_NoNumber_BoxError) (nxga_NoName:=?nxga_NoName) (nxhk_NoName:=?nxhk_NoName) (nxha_NoName:=?nxha_NoName) (nxhm_NoName:=?nxhm_NoName) (nxhb_NoName:=?nxhb_NoName) (nxga_NoCut:=?nxga_NoCut) (nxhk_NoCut:=?nxhk_NoCut) (nxha_NoCut:=?nxha_NoCut) (nxhm_NoCut:=?nxhm_NoCut) (nxhb_NoCut:=?nxhb_NoCut) (nxga_NoSpan:=?nxga_NoSpan) (nxhk_NoSpan:=?nxhk_NoSpan) (nxha_NoSpan:=?nxha_NoSpan) (nxhm_NoSpan:=?nxhm_NoSpan) (nxhb_NoSpan:=?nxhb_NoSpan) (nxga_NoNumber:=?nxga_NoNumber) (nxhk_NoNumber:=?nxhk_NoNumber) (nxha_NoNumber:=?nxha_NoNumber) (nxhm_NoNumber:=?nxhm_NoNumber) (nxhb_NoNumber:=?nxhb_NoNumber) (nxhn:=?nxhn) (nxht:=?nxht) (zbV:=?zbV) (zb8:=?zb8) (zcb:=?zcb)
  (case zav | zbo | zbH | zbk | zbs | zaO | zbv | zbn | n_NoNumber=>k_is)
  (case x_NoNumber=>k_exc)
  (case n_NoSpan=>k_is)
  (case x_NoSpan=>k_exc)
  (case n_NoCut=>k_is)
  (case x_NoCut=>k_exc)
  (case n_NoBook=>k_is)
  (case x_NoBook=>k_exc)
  (case n_NoName | n_NoTask=>k_is)
  (case x_NoTask=>k_exc)
  (case n_TooMuch=>k_is)
  (case x_TooMuch=>k_exc)
  (case n_NoRow=>k_is)
  (case x_NoRow=>k_exc)
  (case n_BoxError=>k_is)
  (case x_BoxError=>k_exc)
  (case s_NoCut_BoxError | s_NoSpan_BoxError | s_NoNumber_BoxError=>kts_exm)
  (case iT_NoName_ValueError | iT_NoCut_ValueError | iT_NoSpan_ValueError | iT_NoNumber_ValueError | iB_NoName_NoBook | iB_NoCut_NoBook | iB_NoSpan_NoBook | iB_NoNumber_NoBook | iB_NoName_NoTask | iB_NoCut_NoTask | iB_NoSpan_NoTask | iB_NoNumber_NoTask | iB_NoName_TooMuch | iB_NoCut_TooMuch | iB_NoSpan_TooMuch | iB_NoNumber_TooMuch | iB_NoName_NoName | iB_NoCut_NoName | iB_NoSpan_NoName | iB_NoNumber_NoName | iB_NoName_NoRow | iB_NoCut_NoRow | iB_NoSpan_NoRow | iB_NoNumber_NoRow | iB_NoName_NoCut | iB_NoCut_NoCut | iB_NoSpan_NoCut | iB_NoNumber_NoCut | iB_NoName_NoSpan | iB_NoCut_NoSpan | iB_NoSpan_NoSpan | iB_NoNumber_NoSpan | iB_NoName_NoNumber | iB_NoCut_NoNumber | iB_NoSpan_NoNumber | iB_NoNumber_NoNumber | iB_NoName_BoxError | iB_NoCut_BoxError | iB_NoSpan_BoxError | iB_NoNumber_BoxError=>kit_is)
  (case nxga_NoName | nxhk_NoName | nxha_NoName | nxhm_NoName | nxhb_NoName | nxga_NoCut | nxhk_NoCut | nxha_NoCut | nxhm_NoCut | nxhb_NoCut | nxga_NoSpan | nxhk_NoSpan | nxha_NoSpan | nxhm_NoSpan | nxhb_NoSpan | nxga_NoNumber | nxhk_NoNumber | nxha_NoNumber | nxhm_NoNumber | nxhb_NoNumber | nxhn | nxht=>k_is)
  (case a0 | a1 | a2 | a3 | a4 | a5 | a6 | a7 | a8 | a9 | a10 | a11 | a12 | a13 | a14 | a15=>delta Mine.nsA; k_is)
  (case l0 | l1 | l2 | l3 | l4 | l5 | l6 | l7 | l8 | l9 | l10 | l11 | l12 | l13 | l14 | l15=>delta Mine.lkA; k_is)
  (case c0 | c1 | c2 | c3 | c4 | c5 | c6 | c7 | c8 | c9 | c10 | c11 | c12 | c13 | c14 | c15=>delta Mine.cdA; k_is)
  (case zbV=>exact L3.zeB _ _ (by simp))
  (case zb8=>exact L3.zeB _ _ (by simp))
  (case zcb=>exact L3.zeB _ _ (by simp))
  (case aI=>delta Mine.fdA; k_is)
  (case lI=>delta Mine.lkA; k_is)
  (case cI=>delta Mine.cdA; k_is)
  (case kI | saI | hdI | naI=>k_is)
  (case xI | twI=>first | kernel_rfl | rfl)
