import PyProof.Rows.All
import Wide.All
import OpenK.AllK
import Wide.FinOn
import Lean
import PyProof.EqAt
import PyProof.EqKinds
import PyProof.TupleCall
import PySem.Challenge.RW_boxnarrow_k32_back_of_products_and_power
theorem Vaa:type_of% @Nat.le_refl:=@Nat.le_refl
theorem Vab:type_of% @List.length_map:=@List.length_map
theorem Vac:type_of% @Int.pow_succ:=@Int.pow_succ
theorem Vad:type_of% @List.getElem?_eq_some_iff:=@List.getElem?_eq_some_iff
theorem Vae:type_of% @List.mem_cons:=@List.mem_cons
theorem Vaf:type_of% @Int.le_of_lt:=@Int.le_of_lt
theorem Vag:type_of% @List.length_set:=@List.length_set
theorem Vah:type_of% @List.getElem?_map:=@List.getElem?_map
theorem Vai:type_of% @Int.neg_mul:=@Int.neg_mul
theorem Vaj:type_of% @Bool.false_ne_true:=@Bool.false_ne_true
theorem Vak:type_of% @List.map_cons:=@List.map_cons
theorem Val:type_of% @List.size_toArray:=@List.size_toArray
theorem Vam:type_of% @List.lookup_cons:=@List.lookup_cons
theorem Van:type_of% @Int.mul_nonneg:=@Int.mul_nonneg
theorem Vao:type_of% @Nat.lt_of_lt_of_le:=@Nat.lt_of_lt_of_le
theorem Vap:type_of% @List.not_mem_nil:=@List.not_mem_nil
theorem Vaq:type_of% @Nat.ne_of_lt:=@Nat.ne_of_lt
theorem Var:type_of% @List.getElem?_append_left:=@List.getElem?_append_left
theorem Vas:type_of% @Nat.le_trans:=@Nat.le_trans
theorem Vat:type_of% @List.mem_of_getElem?:=@List.mem_of_getElem?
theorem Vau:type_of% @Int.pow_pos:=@Int.pow_pos
theorem Vav:type_of% @Option.map_eq_some_iff:=@Option.map_eq_some_iff
theorem Vaw:type_of% @Int.le_refl:=@Int.le_refl
theorem Vax:type_of% @Int.pow_nonneg:=@Int.pow_nonneg
theorem Vay:type_of% @List.getElem?_eq_none_iff:=@List.getElem?_eq_none_iff
theorem Vaz:type_of% @List.mem_cons_of_mem:=@List.mem_cons_of_mem
theorem VaA:type_of% @List.mem_append_right:=@List.mem_append_right
theorem VaB:type_of% @List.getElem?_eq_getElem:=@List.getElem?_eq_getElem
theorem VaC:type_of% @List.getD_eq_getElem?_getD:=@List.getD_eq_getElem?_getD
theorem VaD:type_of% @List.length_append:=@List.length_append
theorem VaE:type_of% @Int.pow_zero:=@Int.pow_zero
theorem VaF:type_of% @Int.mul_le_mul_of_nonneg_right:=@Int.mul_le_mul_of_nonneg_right
theorem VaG:type_of% @Nat.lt_irrefl:=@Nat.lt_irrefl
theorem VaH:type_of% @List.mem_append:=@List.mem_append
theorem VaI:type_of% @List.getElem?_set_ne:=@List.getElem?_set_ne
theorem VaJ:type_of% @List.append_nil:=@List.append_nil
theorem VaK:type_of% @List.find?_cons:=@List.find?_cons
theorem VaL:type_of% @Int.mul_zero:=@Int.mul_zero
theorem VaM:type_of% @Int.mul_neg:=@Int.mul_neg
theorem VaN:type_of% @Nat.le_of_lt:=@Nat.le_of_lt
theorem VaO:type_of% @List.getElem?_set_self:=@List.getElem?_set_self
theorem VaP:type_of% @List.length_cons:=@List.length_cons
theorem VaQ:type_of% @List.length_take:=@List.length_take
theorem VaR:type_of% @Int.neg_neg:=@Int.neg_neg
theorem VaS:type_of% @List.mem_singleton:=@List.mem_singleton
theorem VaT:type_of% @List.mem_cons_self:=@List.mem_cons_self
theorem VaU:type_of% @Nat.zero_le:=@Nat.zero_le
theorem VaV:type_of% @List.getElem?_append_right:=@List.getElem?_append_right
theorem VaW:type_of% @Int.mul_comm:=@Int.mul_comm
theorem VaX:type_of% @Int.le_trans:=@Int.le_trans
set_option Elab.async false
set_option linter.all false
set_option maxRecDepth 100000
set_option genSizeOf false
set_option maxHeartbeats 40000000
namespace L2
open PySem PySem.Spec PyProof.Rows
def zaP (s:Stmt)(j:Nat):Stmt:=match s with
 | .ClassDef _ _ _ body _ _ _ _ _ _ _=>body.getD j (.Pass ⟨0,0,0,0⟩)
 | _=>.Pass ⟨0,0,0,0⟩
def zdJ (s:Stmt):Arguments:=match s with
 | .FunctionDef _ a _ _ _ _ _ _ _ _=>a
 | _=>{ posonlyargs:=[],args:=[],vararg:=none,kwonlyargs:=[],kw_defaults:=[],kwarg:=none,defaults:=[] }
def zcB (s:Stmt):List Stmt:=match s with
 | .FunctionDef _ _ b _ _ _ _ _ _ _=>b
 | _=>[]
def zat (s:Stmt):Scope:=match s with
 | .FunctionDef _ _ _ _ _ _ sc _ _ _=>sc
 | _=>{ kind:=.function,names:=[],isGenerator:=false,isCoroutine:=false }
end L2
namespace L3
open PySem PySem.W PyProof.Rows PySem.Calls
def goT (tb:String→Option Builtin)(p:Program)(w:World)(n₀:Nat)(ann:Option Value):Nat→SharedT→Thread→Option SharedT
 | 0,_,_=>none
 | k+1,s,t=>bif through t then some s else bif stepOk n₀ ann t then (stepT (denote tb) p w s t).bind (λr=>goT tb p w n₀ ann k r.1 r.2) else none
theorem zmn {tb:String→Option Builtin}{p:Program}{w:World}{n₀:Nat}{ann:Option Value}:∀ {n:Nat} {s s':SharedT} {t:Thread},goT tb p w n₀ ann n s t=some s'→topRun tb p w n₀ ann n s.abs t=some s'.abs
 | 0,_,_,_,q=>nomatch q
 | n+1,s,s',t,q=>by
  unfold goT at q
  unfold topRun
  cases c1:through t
  ·rw[c1] at q
   cases c2:stepOk n₀ ann t
   ·rw[c2] at q
    exact nomatch q
   ·rw[c2] at q
    obtain⟨⟨s2,t2⟩,c3,q⟩:=Option.bind_eq_some_iff.mp q
    rw[stepT_spec c3]
    exact zmn q
  ·rw[c1] at q
   cases q
   rfl
def zlj (os:Array Obj):Nat→Nat→Nat→BT
 | 0,_,_=>.nil
 | f+1,a,b=>match os[b]? with
  | some o=>.node o (zlj os f (2*a) (a+b)) (zlj os f (2*a) (2*a+b))
  | none=>.nil
noncomputable def bootT (P:Params):BT:=zlj (boot_heap P).objs 6 1 0
noncomputable abbrev zmt (w:World)(os:OsState):SharedT:=⟨bootT w.params,11,(boot_heap w.params).life,Array.mk [],boot_drawn,boot_toks,os⟩
def ziM (s:SharedT)(a:Addr):Option Obj:=if a<s.n then (match s.tree.get a with | some o=>alive o | none=>s.abs.heap.get? a) else none
theorem zpn (s:SharedT)(a:Addr):s.abs.heap.get? a=ziM s a:=by
 unfold ziM
 split
 ·rename_i h
  cases e:s.tree.get a with
  | none=>rfl
  | some o=>exact abs_get h e
 ·rename_i h
  exact abs_get_none h
theorem zqt (l:List Addr)(s:SharedT):l.map s.abs.heap.get?=l.map (ziM s):=List.map_congr_left λa _=>zpn s a
noncomputable abbrev zlU (p q:Program)(loose:List Str)(Xt:Shared→Bool){α:Type}(YT:SharedT→α)(g0:Bool)(w:World)(s:SharedT):=
 ((staticsOk (importedModules p.main.body) (boot_heap w.params) s.abs.heap&&namesBound p s.abs.heap&&gensDone s.abs&&laidKept (boot_heap w.params) s.abs.heap),openSeen q loose (importedModules p.main.body) Xt g0 s.abs,YT s)
theorem zsl {p q:Program}{loose:List Str}{Xt:Shared→Bool}{α:Type}{Yf:Shared→α}{YT:SharedT→α}{Ya:World→α}{N:Nat}{g0:Bool}{ann:Option Value}(hY:∀s:SharedT,Yf s.abs=YT s)(e:opening p=plainProg p.main.scope.names)(hN:Nat.ble 600 N=true)(f:∀s,fenceModules? p s=some s)
  (size:∀w:World,((boot_heap w.params).isNs mainGlobals&&(Array.mk []:Array GenState).size==0,(boot_heap w.params).objs.size,(boot_heap w.params).nsMap mainGlobals "__annotations__")=(true,11,ann))
  (run:∀w:World,(λos=>(goT treeTable p w 11 ann N (zmt w os) (topStub p)).map λs=>zlU p q loose Xt YT g0 w s)=λ_=>some (true,openGood q loose,Ya w)):LeftO p q loose Xt Yf Ya N g0:=λw=>by
 obtain⟨⟨h,gs,d,k,os⟩,e1,e'⟩:=Vav.mp (boot_open e hN f w)
 obtain⟨rfl,rfl,rfl,rfl⟩:h=boot_heap w.params∧gs=Array.mk []∧d=boot_drawn∧k=boot_toks:=by simpa using e'
 obtain⟨y1,y2,y3⟩:_∧_∧_:=by simpa only [Prod.mk.injEq] using size w
 obtain⟨s',r1,r2⟩:=Vav.mp (congrFun (run w) os)
 obtain⟨l1,l2,l3⟩:_∧_∧_:=by simpa only [Prod.mk.injEq] using r2
 have r:topRun treeTable p w 11 ann N ⟨boot_heap w.params,Array.mk [],boot_drawn,boot_toks,os⟩ (topStub p)=some s'.abs:=by
  have z:=zmn r1
  exact z
 have t:topFrom treeTable p w N ⟨boot_heap w.params,Array.mk [],boot_drawn,boot_toks,os⟩=some s'.abs:=by
  unfold topFrom
  dsimp only
  rw[y1,y2,y3,r]
  show (match staticsOk (importedModules p.main.body) (boot_heap w.params) s'.abs.heap&&namesBound p s'.abs.heap&&gensDone s'.abs&&laidKept (boot_heap w.params) s'.abs.heap with | true=>_ | false=>_)=_
  rw[l1]
 unfold openEnds
 rw[e1]
 show Option.map _ (topFrom treeTable p w N _)=_
 rw[t]
 exact congrArg some (Prod.ext l2 ((hY s').trans l3))
end L3
namespace Mine
open PySem PySem.Spec PyProof.Rows L2 L3
def top (i:Nat):Stmt:=PySem.Challenge.pw_boxnarrow_k32_back_of_products_and_power.main.body.getD i (.Pass ⟨0,0,0,0⟩)
def vw:Program:={ PySem.Challenge.pw_boxnarrow_k32_back_of_products_and_power with main:={ PySem.Challenge.pw_boxnarrow_k32_back_of_products_and_power.main with body:=[top 0,top 2,top 4,top 5,top 6,top 7,top 8,top 10,top 11,top 12,top 13,top 14,top 15,top 16,top 17,top 18,top 19,top 20,top 22,top 23,top 24,top 25,top 26,top 27,top 28,top 29,top 30,top 32,top 33,top 34,top 35,top 36,top 37,top 38,top 39,top 40,top 41,top 42,top 43,top 44,top 45,top 46,top 47,top 48,top 49,top 50,top 51,top 52,top 53,top 54,top 55] } }
noncomputable abbrev de (P:Params)(s:Str)(t:Tok)(v:Value):DictEntry:=⟨PySem.PyData.keyHash P s,.str s t,v⟩
abbrev co (n q:Str)(a b c d:Tok)(i k:Int)(r s:Addr)(y z:Value)(t:Addr)(j:Int):Obj:=⟨.type "code",none,.fields #[.str n a,.str q b,.str "/claim/cut.py" c,.int i 0,.int k 0,.int 0 0,.int 0 0,.int 3 0,.ref r,.bool Bool.true,.int 181 0,.ref s,.none,y,z,.ref t,.int j 0,.int i 0,.str "/claim/cut.py" d],#[]⟩
abbrev fo (n q:Str)(st:Stmt)(m:Value)(c:Addr):Obj:=⟨.type "function",none,.func (PySem.W.fnOf n q (zdJ st) (zcB st) (zat st) .none .none .none m none (.ref c) .none),#[]⟩
noncomputable def kp:Params→PySem.W.Frag:=λP=>
 (nat_lit 3,(.mk (.type "dict") none (.dict #[(de P "__name__" 165 (.str "law_boxnarrow_k32_back_of_products_and_power" 845)),(de P "__doc__" 166 .none),(de P "__package__" 167 .none),(de P "__loader__" 168 (.builtin "__main__.__loader__#opaque")),(de P "__spec__" 169 .none),(de P "__annotations__" 170 (.ref 6)),(de P "__builtins__" 171 (.ref 4)),(de P "__file__" 173 (.str "/claim/cut.py" 172)),(de P "__cached__" 174 .none),(de P "_wall" 193 (.ref 21)),(de P "raised" 205 (.ref 28)),(de P "rounded_up" 215 (.ref 35)),(de P "add_spans" 223 (.ref 42)),(de P "take_spans" 231 (.ref 49)),(de P "common" 241 (.ref 56)),(de P "hull" 249 (.ref 63)),(de P "holds_nought" 258 (.ref 70)),(de P "opposite" 265 (.ref 77)),(de P "joined" 273 (.ref 84)),(de P "part_between" 282 (.ref 91)),(de P "quotient" 290 (.ref 98)),(de P "back_by_side" 303 (.ref 105)),(de P "back_times" 316 (.ref 112)),(de P "root_below" 326 (.ref 119)),(de P "next_guess" 335 (.ref 126)),(de P "root" 344 (.ref 133)),(de P "back_power" 358 (.ref 140)),(de P "Node" 380 (.ref 150)),(de P "Number" 447 (.ref 199)),(de P "Unknown" 512 (.ref 246)),(de P "Pair" 562 (.ref 279)),(de P "Plus" 631 (.ref 326)),(de P "Minus" 700 (.ref 373)),(de P "Times" 769 (.ref 420)),(de P "Power" 837 (.ref 467)),(de P "kind_of" 844 (.ref 476)),(de P "_law_cell" 854 (.ref 483)),(de P "_law_whole" 861 (.ref 490)),(de P "_law_span_is" 868 (.ref 497)),(de P "_law_divisor" 877 (.ref 504)),(de P "_law_fraction" 886 (.ref 511)),(de P "_law_grid" 894 (.ref 518)),(de P "_law_span" 905 (.ref 525)),(de P "_law_power" 915 (.ref 532)),(de P "_law_number" 924 (.ref 539)),(de P "_law_node" 936 (.ref 546)),(de P "_law_forth" 951 (.ref 553)),(de P "_law_made" 959 (.ref 560)),(de P "_law_pieces" 976 (.ref 567)),(de P "_law_kept" 986 (.ref 574)),(de P "_law_hulled" 992 (.ref 579)),(de P "_law_quot" 998 (.ref 584)),(de P "_law_root" 1010 (.ref 591)),(de P "_law_down" 1020 (.ref 598)),(de P "_law_root_kept" 1031 (.ref 605)),(de P "_law_rooted" 1046 (.ref 612)),(de P "_law_back_part" 1058 (.ref 619)),(de P "_law_here" 1076 (.ref 626)),(de P "_law_parts_are" 1086 (.ref 633)),(de P "law" 1092 (.ref 638))] 60) #[]))::
 (nat_lit 27,co "raised" "raised" 196 197 198 204 5 2 22 23 (.ref 24) (.ref 25) 26 203)::
 (nat_lit 28,fo "raised" "raised" (top 2) (.str "boxnarrow.fractions" 194) 27)::
 (nat_lit 34,co "rounded_up" "rounded_up" 208 209 210 214 11 2 29 30 (.ref 31) (.ref 32) 33 213)::
 (nat_lit 35,fo "rounded_up" "rounded_up" (top 4) (.str "boxnarrow.spans" 206) 34)::
 (nat_lit 41,co "add_spans" "add_spans" 216 217 218 222 13 2 36 37 (.ref 38) (.ref 39) 40 221)::
 (nat_lit 42,fo "add_spans" "add_spans" (top 5) (.str "boxnarrow.spans" 206) 41)::
 (nat_lit 48,co "take_spans" "take_spans" 224 225 226 230 15 2 43 44 (.ref 45) (.ref 46) 47 229)::
 (nat_lit 49,fo "take_spans" "take_spans" (top 6) (.str "boxnarrow.spans" 206) 48)::
 (nat_lit 55,co "common" "common" 232 233 234 240 17 2 50 51 (.ref 52) (.ref 53) 54 239)::
 (nat_lit 56,fo "common" "common" (top 7) (.str "boxnarrow.spans" 206) 55)::
 (nat_lit 62,co "hull" "hull" 242 243 244 248 23 2 57 58 (.ref 59) (.ref 60) 61 247)::
 (nat_lit 63,fo "hull" "hull" (top 8) (.str "boxnarrow.spans" 206) 62)::
 (nat_lit 69,co "holds_nought" "holds_nought" 252 253 254 257 26 1 64 65 (.ref 66) (.ref 67) 68 256)::
 (nat_lit 70,fo "holds_nought" "holds_nought" (top 10) (.str "boxnarrow.backs" 250) 69)::
 (nat_lit 76,co "opposite" "opposite" 259 260 261 264 28 1 71 72 (.ref 73) (.ref 74) 75 263)::
 (nat_lit 77,fo "opposite" "opposite" (top 11) (.str "boxnarrow.backs" 250) 76)::
 (nat_lit 83,co "joined" "joined" 266 267 268 272 30 2 78 79 (.ref 80) (.ref 81) 82 271)::
 (nat_lit 84,fo "joined" "joined" (top 12) (.str "boxnarrow.backs" 250) 83)::
 (nat_lit 90,co "part_between" "part_between" 274 275 276 281 36 3 85 86 (.ref 87) (.ref 88) 89 280)::
 (nat_lit 91,fo "part_between" "part_between" (top 13) (.str "boxnarrow.backs" 250) 90)::
 (nat_lit 97,co "quotient" "quotient" 283 284 285 289 40 2 92 93 (.ref 94) (.ref 95) 96 288)::
 (nat_lit 98,fo "quotient" "quotient" (top 14) (.str "boxnarrow.backs" 250) 97)::
 (nat_lit 104,co "back_by_side" "back_by_side" 291 292 293 302 42 3 99 100 (.ref 101) (.ref 102) 103 301)::
 (nat_lit 105,fo "back_by_side" "back_by_side" (top 15) (.str "boxnarrow.backs" 250) 104)::
 (nat_lit 111,co "back_times" "back_times" 304 305 306 315 48 4 106 107 (.ref 108) (.ref 109) 110 314)::
 (nat_lit 112,fo "back_times" "back_times" (top 16) (.str "boxnarrow.backs" 250) 111)::
 (nat_lit 118,co "root_below" "root_below" 317 318 319 325 59 2 113 114 (.ref 115) (.ref 116) 117 324)::
 (nat_lit 119,fo "root_below" "root_below" (top 17) (.str "boxnarrow.backs" 250) 118)::
 (nat_lit 125,co "next_guess" "next_guess" 327 328 329 334 68 3 120 121 (.ref 122) (.ref 123) 124 333)::
 (nat_lit 126,fo "next_guess" "next_guess" (top 18) (.str "boxnarrow.backs" 250) 125)::
 (nat_lit 132,co "root" "root" 336 337 338 343 70 2 127 128 (.ref 129) (.ref 130) 131 342)::
 (nat_lit 133,fo "root" "root" (top 19) (.str "boxnarrow.backs" 250) 132)::
 (nat_lit 139,co "back_power" "back_power" 345 346 347 357 77 4 134 135 (.ref 136) (.ref 137) 138 356)::
 (nat_lit 140,fo "back_power" "back_power" (top 20) (.str "boxnarrow.backs" 250) 139)::
 (nat_lit 149,(.mk (.type "dict") none (.dict #[(de P "__module__" 368 (.str "boxnarrow.kinds" 359)),(de P "__firstlineno__" 372 (.int 88 371)),(de P "__static_attributes__" 373 (.ref 148)),(de P "__dict__" 375 (.ref 151)),(de P "__weakref__" 377 (.ref 152)),(de P "__doc__" 378 .none)] 4) #[]))::
 (nat_lit 150,(.mk (.type "type") none (.cls (PySem.ClassData.mk "Node" [(.type "object")] [(.ref 150),(.type "object")] 149 "Node" Bool.true [] [(.ref 199),(.ref 246),(.ref 279),(.ref 467)] Bool.false none Bool.false)) #[none,none,(some (.str "Node" 361)),(some (.str "Node" 369)),(some (.builtin "object.__new__")),(some (.bool Bool.true))]))::
 (nat_lit 167,co "__init__" "Number.__init__" 393 394 395 400 92 3 162 163 (.ref 164) (.ref 165) 166 399)::
 (nat_lit 168,fo "__init__" "Number.__init__" (zaP (top 23) 0) (.str "boxnarrow.kinds" 359) 167)::
 (nat_lit 188,co "back" "Number.back" 421 422 423 429 102 4 183 184 (.ref 185) (.ref 186) 187 428)::
 (nat_lit 189,fo "back" "Number.back" (zaP (top 23) 3) (.str "boxnarrow.kinds" 359) 188)::
 (nat_lit 198,(.mk (.type "dict") none (.dict #[(de P "__module__" 388 (.str "boxnarrow.kinds" 359)),(de P "__firstlineno__" 392 (.int 90 391)),(de P "__init__" 401 (.ref 168)),(de P "exact" 410 (.ref 175)),(de P "forth" 420 (.ref 182)),(de P "back" 430 (.ref 189)),(de P "slope" 441 (.ref 196)),(de P "__static_attributes__" 444 (.ref 197)),(de P "__doc__" 445 .none)] 2) #[]))::
 (nat_lit 199,(.mk (.type "type") none (.cls (PySem.ClassData.mk "Number" [(.ref 150)] [(.ref 199),(.ref 150),(.type "object")] 198 "Number" Bool.true [] [] Bool.false none Bool.false)) #[(some (.ref 155)),none,(some (.str "Number" 381)),(some (.str "Number" 389)),(some (.builtin "object.__new__")),(some (.bool Bool.true))]))::
 (nat_lit 214,co "__init__" "Unknown.__init__" 460 461 462 466 109 2 209 210 (.ref 211) (.ref 212) 213 465)::
 (nat_lit 215,fo "__init__" "Unknown.__init__" (zaP (top 24) 0) (.str "boxnarrow.kinds" 359) 214)::
 (nat_lit 235,co "back" "Unknown.back" 487 488 489 495 118 4 230 231 (.ref 232) (.ref 233) 234 494)::
 (nat_lit 236,fo "back" "Unknown.back" (zaP (top 24) 3) (.str "boxnarrow.kinds" 359) 235)::
 (nat_lit 245,(.mk (.type "dict") none (.dict #[(de P "__module__" 455 (.str "boxnarrow.kinds" 359)),(de P "__firstlineno__" 459 (.int 107 458)),(de P "__init__" 467 (.ref 215)),(de P "exact" 476 (.ref 222)),(de P "forth" 486 (.ref 229)),(de P "back" 496 (.ref 236)),(de P "slope" 507 (.ref 243)),(de P "__static_attributes__" 509 (.ref 244)),(de P "__doc__" 510 .none)] 2) #[]))::
 (nat_lit 246,(.mk (.type "type") none (.cls (PySem.ClassData.mk "Unknown" [(.ref 150)] [(.ref 246),(.ref 150),(.type "object")] 245 "Unknown" Bool.true [] [] Bool.false none Bool.false)) #[(some (.ref 202)),none,(some (.str "Unknown" 448)),(some (.str "Unknown" 456)),(some (.builtin "object.__new__")),(some (.bool Bool.true))]))::
 (nat_lit 261,co "__init__" "Pair.__init__" 525 526 527 532 125 3 256 257 (.ref 258) (.ref 259) 260 531)::
 (nat_lit 262,fo "__init__" "Pair.__init__" (zaP (top 25) 0) (.str "boxnarrow.kinds" 359) 261)::
 (nat_lit 268,co "back" "Pair.back" 534 535 536 544 129 4 263 264 (.ref 265) (.ref 266) 267 543)::
 (nat_lit 269,fo "back" "Pair.back" (zaP (top 25) 1) (.str "boxnarrow.kinds" 359) 268)::
 (nat_lit 278,(.mk (.type "dict") none (.dict #[(de P "__module__" 520 (.str "boxnarrow.kinds" 359)),(de P "__firstlineno__" 524 (.int 123 523)),(de P "__init__" 533 (.ref 262)),(de P "back" 545 (.ref 269)),(de P "slope" 556 (.ref 276)),(de P "__static_attributes__" 559 (.ref 277)),(de P "__doc__" 560 .none)] 2) #[]))::
 (nat_lit 279,(.mk (.type "type") none (.cls (PySem.ClassData.mk "Pair" [(.ref 150)] [(.ref 279),(.ref 150),(.type "object")] 278 "Pair" Bool.true [] [(.ref 326),(.ref 373),(.ref 420)] Bool.false none Bool.false)) #[(some (.ref 249)),none,(some (.str "Pair" 513)),(some (.str "Pair" 521)),(some (.builtin "object.__new__")),(some (.bool Bool.true))]))::
 (nat_lit 308,co "first_left" "Plus.first_left" 594 595 596 603 149 5 303 304 (.ref 305) (.ref 306) 307 602)::
 (nat_lit 309,fo "first_left" "Plus.first_left" (zaP (top 26) 2) (.str "boxnarrow.kinds" 359) 308)::
 (nat_lit 315,co "second_left" "Plus.second_left" 605 606 607 614 152 5 310 311 (.ref 312) (.ref 313) 314 613)::
 (nat_lit 316,fo "second_left" "Plus.second_left" (zaP (top 26) 3) (.str "boxnarrow.kinds" 359) 315)::
 (nat_lit 325,(.mk (.type "dict") none (.dict #[(de P "__module__" 570 (.str "boxnarrow.kinds" 359)),(de P "__firstlineno__" 574 (.int 141 573)),(de P "exact" 583 (.ref 295)),(de P "forth" 593 (.ref 302)),(de P "first_left" 604 (.ref 309)),(de P "second_left" 615 (.ref 316)),(de P "slope_of_both" 627 (.ref 323)),(de P "__static_attributes__" 628 (.ref 324)),(de P "__doc__" 629 .none)] 2) #[]))::
 (nat_lit 326,(.mk (.type "type") none (.cls (PySem.ClassData.mk "Plus" [(.ref 279)] [(.ref 326),(.ref 279),(.ref 150),(.type "object")] 325 "Plus" Bool.true [] [] Bool.false none Bool.false)) #[(some (.ref 282)),none,(some (.str "Plus" 563)),(some (.str "Plus" 571)),(some (.builtin "object.__new__")),(some (.bool Bool.true))]))::
 (nat_lit 355,co "first_left" "Minus.first_left" 663 664 665 672 165 5 350 351 (.ref 352) (.ref 353) 354 671)::
 (nat_lit 356,fo "first_left" "Minus.first_left" (zaP (top 27) 2) (.str "boxnarrow.kinds" 359) 355)::
 (nat_lit 362,co "second_left" "Minus.second_left" 674 675 676 683 168 5 357 358 (.ref 359) (.ref 360) 361 682)::
 (nat_lit 363,fo "second_left" "Minus.second_left" (zaP (top 27) 3) (.str "boxnarrow.kinds" 359) 362)::
 (nat_lit 372,(.mk (.type "dict") none (.dict #[(de P "__module__" 639 (.str "boxnarrow.kinds" 359)),(de P "__firstlineno__" 643 (.int 157 642)),(de P "exact" 652 (.ref 342)),(de P "forth" 662 (.ref 349)),(de P "first_left" 673 (.ref 356)),(de P "second_left" 684 (.ref 363)),(de P "slope_of_both" 696 (.ref 370)),(de P "__static_attributes__" 697 (.ref 371)),(de P "__doc__" 698 .none)] 2) #[]))::
 (nat_lit 373,(.mk (.type "type") none (.cls (PySem.ClassData.mk "Minus" [(.ref 279)] [(.ref 373),(.ref 279),(.ref 150),(.type "object")] 372 "Minus" Bool.true [] [] Bool.false none Bool.false)) #[(some (.ref 329)),none,(some (.str "Minus" 632)),(some (.str "Minus" 640)),(some (.builtin "object.__new__")),(some (.bool Bool.true))]))::
 (nat_lit 402,co "first_left" "Times.first_left" 732 733 734 741 181 5 397 398 (.ref 399) (.ref 400) 401 740)::
 (nat_lit 403,fo "first_left" "Times.first_left" (zaP (top 28) 2) (.str "boxnarrow.kinds" 359) 402)::
 (nat_lit 409,co "second_left" "Times.second_left" 743 744 745 752 184 5 404 405 (.ref 406) (.ref 407) 408 751)::
 (nat_lit 410,fo "second_left" "Times.second_left" (zaP (top 28) 3) (.str "boxnarrow.kinds" 359) 409)::
 (nat_lit 419,(.mk (.type "dict") none (.dict #[(de P "__module__" 708 (.str "boxnarrow.kinds" 359)),(de P "__firstlineno__" 712 (.int 173 711)),(de P "exact" 721 (.ref 389)),(de P "forth" 731 (.ref 396)),(de P "first_left" 742 (.ref 403)),(de P "second_left" 753 (.ref 410)),(de P "slope_of_both" 765 (.ref 417)),(de P "__static_attributes__" 766 (.ref 418)),(de P "__doc__" 767 .none)] 2) #[]))::
 (nat_lit 420,(.mk (.type "type") none (.cls (PySem.ClassData.mk "Times" [(.ref 279)] [(.ref 420),(.ref 279),(.ref 150),(.type "object")] 419 "Times" Bool.true [] [] Bool.false none Bool.false)) #[(some (.ref 376)),none,(some (.str "Times" 701)),(some (.str "Times" 709)),(some (.builtin "object.__new__")),(some (.bool Bool.true))]))::
 (nat_lit 435,co "__init__" "Power.__init__" 782 783 784 789 191 3 430 431 (.ref 432) (.ref 433) 434 788)::
 (nat_lit 436,fo "__init__" "Power.__init__" (zaP (top 29) 0) (.str "boxnarrow.kinds" 359) 435)::
 (nat_lit 456,co "back" "Power.back" 810 811 812 819 201 4 451 452 (.ref 453) (.ref 454) 455 818)::
 (nat_lit 457,fo "back" "Power.back" (zaP (top 29) 3) (.str "boxnarrow.kinds" 359) 456)::
 (nat_lit 466,(.mk (.type "dict") none (.dict #[(de P "__module__" 777 (.str "boxnarrow.kinds" 359)),(de P "__firstlineno__" 781 (.int 189 780)),(de P "__init__" 790 (.ref 436)),(de P "exact" 799 (.ref 443)),(de P "forth" 809 (.ref 450)),(de P "back" 820 (.ref 457)),(de P "slope" 831 (.ref 464)),(de P "__static_attributes__" 834 (.ref 465)),(de P "__doc__" 835 .none)] 2) #[]))::
 (nat_lit 467,(.mk (.type "type") none (.cls (PySem.ClassData.mk "Power" [(.ref 150)] [(.ref 467),(.ref 150),(.type "object")] 466 "Power" Bool.true [] [] Bool.false none Bool.false)) #[(some (.ref 423)),none,(some (.str "Power" 770)),(some (.str "Power" 778)),(some (.builtin "object.__new__")),(some (.bool Bool.true))]))::
 (nat_lit 475,co "kind_of" "kind_of" 838 839 840 843 209 1 470 471 (.ref 472) (.ref 473) 474 842)::
 (nat_lit 476,fo "kind_of" "kind_of" (top 30) (.str "boxnarrow.kinds" 359) 475)::
 (nat_lit 482,co "_law_cell" "_law_cell" 847 848 849 853 222 2 477 478 (.ref 479) (.ref 480) 481 852)::
 (nat_lit 483,fo "_law_cell" "_law_cell" (top 32) (.str "law_boxnarrow_k32_back_of_products_and_power" 845) 482)::
 (nat_lit 489,co "_law_whole" "_law_whole" 855 856 857 860 226 1 484 485 (.ref 486) (.ref 487) 488 859)::
 (nat_lit 490,fo "_law_whole" "_law_whole" (top 33) (.str "law_boxnarrow_k32_back_of_products_and_power" 845) 489)::
 (nat_lit 496,co "_law_span_is" "_law_span_is" 862 863 864 867 228 1 491 492 (.ref 493) (.ref 494) 495 866)::
 (nat_lit 497,fo "_law_span_is" "_law_span_is" (top 34) (.str "law_boxnarrow_k32_back_of_products_and_power" 845) 496)::
 (nat_lit 517,co "_law_grid" "_law_grid" 887 888 889 893 241 1 512 513 (.ref 514) (.ref 515) 516 892)::
 (nat_lit 518,fo "_law_grid" "_law_grid" (top 37) (.str "law_boxnarrow_k32_back_of_products_and_power" 845) 517)::
 (nat_lit 524,co "_law_span" "_law_span" 895 896 897 904 244 1 519 520 (.ref 521) (.ref 522) 523 903)::
 (nat_lit 525,fo "_law_span" "_law_span" (top 38) (.str "law_boxnarrow_k32_back_of_products_and_power" 845) 524)::
 (nat_lit 531,co "_law_power" "_law_power" 906 907 908 914 258 2 526 527 (.ref 528) (.ref 529) 530 913)::
 (nat_lit 532,fo "_law_power" "_law_power" (top 39) (.str "law_boxnarrow_k32_back_of_products_and_power" 845) 531)::
 (nat_lit 552,co "_law_forth" "_law_forth" 937 938 939 950 284 4 547 548 (.ref 549) (.ref 550) 551 949)::
 (nat_lit 553,fo "_law_forth" "_law_forth" (top 42) (.str "law_boxnarrow_k32_back_of_products_and_power" 845) 552)::
 (nat_lit 559,co "_law_made" "_law_made" 952 953 954 958 304 2 554 555 (.ref 556) (.ref 557) 558 957)::
 (nat_lit 560,fo "_law_made" "_law_made" (top 43) (.str "law_boxnarrow_k32_back_of_products_and_power" 845) 559)::
 (nat_lit 566,co "_law_pieces" "_law_pieces" 960 961 962 975 318 3 561 562 (.ref 563) (.ref 564) 565 974)::
 (nat_lit 567,fo "_law_pieces" "_law_pieces" (top 44) (.str "law_boxnarrow_k32_back_of_products_and_power" 845) 566)::
 (nat_lit 573,co "_law_kept" "_law_kept" 977 978 979 985 342 2 568 569 (.ref 570) (.ref 571) 572 984)::
 (nat_lit 574,fo "_law_kept" "_law_kept" (top 45) (.str "law_boxnarrow_k32_back_of_products_and_power" 845) 573)::
 (nat_lit 578,co "_law_hulled" "_law_hulled" 987 988 989 991 354 1 575 576 .none .none 577 990)::
 (nat_lit 579,fo "_law_hulled" "_law_hulled" (top 46) (.str "law_boxnarrow_k32_back_of_products_and_power" 845) 578)::
 (nat_lit 583,co "_law_quot" "_law_quot" 993 994 995 997 359 4 580 581 .none .none 582 996)::
 (nat_lit 584,fo "_law_quot" "_law_quot" (top 47) (.str "law_boxnarrow_k32_back_of_products_and_power" 845) 583)::
 (nat_lit 590,co "_law_root" "_law_root" 999 1000 1001 1009 363 3 585 586 (.ref 587) (.ref 588) 589 1008)::
 (nat_lit 591,fo "_law_root" "_law_root" (top 48) (.str "law_boxnarrow_k32_back_of_products_and_power" 845) 590)::
 (nat_lit 597,co "_law_down" "_law_down" 1011 1012 1013 1019 373 3 592 593 (.ref 594) (.ref 595) 596 1018)::
 (nat_lit 598,fo "_law_down" "_law_down" (top 49) (.str "law_boxnarrow_k32_back_of_products_and_power" 845) 597)::
 (nat_lit 604,co "_law_root_kept" "_law_root_kept" 1021 1022 1023 1030 380 4 599 600 (.ref 601) (.ref 602) 603 1029)::
 (nat_lit 605,fo "_law_root_kept" "_law_root_kept" (top 50) (.str "law_boxnarrow_k32_back_of_products_and_power" 845) 604)::
 (nat_lit 611,co "_law_rooted" "_law_rooted" 1032 1033 1034 1045 385 4 606 607 (.ref 608) (.ref 609) 610 1044)::
 (nat_lit 612,fo "_law_rooted" "_law_rooted" (top 51) (.str "law_boxnarrow_k32_back_of_products_and_power" 845) 611)::
 (nat_lit 618,co "_law_back_part" "_law_back_part" 1047 1048 1049 1057 398 4 613 614 (.ref 615) (.ref 616) 617 1056)::
 (nat_lit 619,fo "_law_back_part" "_law_back_part" (top 52) (.str "law_boxnarrow_k32_back_of_products_and_power" 845) 618)::
 (nat_lit 625,co "_law_here" "_law_here" 1059 1060 1061 1075 414 5 620 621 (.ref 622) (.ref 623) 624 1074)::
 (nat_lit 626,fo "_law_here" "_law_here" (top 53) (.str "law_boxnarrow_k32_back_of_products_and_power" 845) 625)::
 (nat_lit 632,co "_law_parts_are" "_law_parts_are" 1077 1078 1079 1085 429 2 627 628 (.ref 629) (.ref 630) 631 1084)::
 (nat_lit 633,fo "_law_parts_are" "_law_parts_are" (top 54) (.str "law_boxnarrow_k32_back_of_products_and_power" 845) 632)::
 (nat_lit 637,co "law" "law" 1087 1088 1089 1091 441 1 634 635 .none .none 636 1090)::
 (nat_lit 638,fo "law" "law" (top 55) (.str "law_boxnarrow_k32_back_of_products_and_power" 845) 637)::[]
def ks:List Addr:=nat_lit 3::nat_lit 27::nat_lit 28::nat_lit 34::nat_lit 35::nat_lit 41::nat_lit 42::nat_lit 48::nat_lit 49::nat_lit 55::nat_lit 56::nat_lit 62::nat_lit 63::nat_lit 69::nat_lit 70::nat_lit 76::nat_lit 77::nat_lit 83::nat_lit 84::nat_lit 90::nat_lit 91::nat_lit 97::nat_lit 98::nat_lit 104::nat_lit 105::nat_lit 111::nat_lit 112::nat_lit 118::nat_lit 119::nat_lit 125::nat_lit 126::nat_lit 132::nat_lit 133::nat_lit 139::nat_lit 140::nat_lit 149::nat_lit 150::nat_lit 167::nat_lit 168::nat_lit 188::nat_lit 189::nat_lit 198::nat_lit 199::nat_lit 214::nat_lit 215::nat_lit 235::nat_lit 236::nat_lit 245::nat_lit 246::nat_lit 261::nat_lit 262::nat_lit 268::nat_lit 269::nat_lit 278::nat_lit 279::nat_lit 308::nat_lit 309::nat_lit 315::nat_lit 316::nat_lit 325::nat_lit 326::nat_lit 355::nat_lit 356::nat_lit 362::nat_lit 363::nat_lit 372::nat_lit 373::nat_lit 402::nat_lit 403::nat_lit 409::nat_lit 410::nat_lit 419::nat_lit 420::nat_lit 435::nat_lit 436::nat_lit 456::nat_lit 457::nat_lit 466::nat_lit 467::nat_lit 475::nat_lit 476::nat_lit 482::nat_lit 483::nat_lit 489::nat_lit 490::nat_lit 496::nat_lit 497::nat_lit 517::nat_lit 518::nat_lit 524::nat_lit 525::nat_lit 531::nat_lit 532::nat_lit 552::nat_lit 553::nat_lit 559::nat_lit 560::nat_lit 566::nat_lit 567::nat_lit 573::nat_lit 574::nat_lit 578::nat_lit 579::nat_lit 583::nat_lit 584::nat_lit 590::nat_lit 591::nat_lit 597::nat_lit 598::nat_lit 604::nat_lit 605::nat_lit 611::nat_lit 612::nat_lit 618::nat_lit 619::nat_lit 625::nat_lit 626::nat_lit 632::nat_lit 633::nat_lit 637::nat_lit 638::[]
theorem zeq (P:Params):ks=(kp P).map (·.1):=by kernel_rfl
noncomputable abbrev hk:PySem.W.Hook:=PySem.W.kHook kp ks zeq
abbrev xt (s:Shared):Bool:=PySem.W.xlAt vw [] s&&PySem.W.recOk (PySem.W.RowW.records (PySem.W.OpenRow.toRowW (PySem.W.OpenLaw.row PySem.Challenge.rw_boxnarrow_k32_back_of_products_and_power))) s
theorem zkM:PySem.W.opening PySem.Challenge.pw_boxnarrow_k32_back_of_products_and_power=PySem.W.plainProg PySem.Challenge.pw_boxnarrow_k32_back_of_products_and_power.main.scope.names:=by kernel_rfl
theorem fe_eq (s:Shared):PySem.fenceModules? PySem.Challenge.pw_boxnarrow_k32_back_of_products_and_power s=some s:=by kernel_rfl
theorem si_eq (w:World):((PySem.W.boot_heap w.params).isNs mainGlobals&&(Array.mk []:Array GenState).size==0,(PySem.W.boot_heap w.params).objs.size,(PySem.W.boot_heap w.params).nsMap mainGlobals "__annotations__")=(true,11,some (.ref 6)):=by kernel_rfl
theorem zsn (w:World):(λos=>(L3.goT PySem.treeTable PySem.Challenge.pw_boxnarrow_k32_back_of_products_and_power w 11 (some (.ref 6)) 8640 (L3.zmt w os) (PySem.W.topStub PySem.Challenge.pw_boxnarrow_k32_back_of_products_and_power)).map λs=>L3.zlU PySem.Challenge.pw_boxnarrow_k32_back_of_products_and_power vw [] xt (λs=>ks.map (L3.ziM s)) true w s)=λ_=>some (true,PySem.W.openGood vw [],hk.val w):=by kernel_rfl
theorem left:PySem.W.LeftO PySem.Challenge.pw_boxnarrow_k32_back_of_products_and_power vw [] xt hk.obs hk.val 8640:=L3.zsl (L3.zqt ks) zkM (by decide) fe_eq si_eq zsn
end Mine
set_option Elab.async false
set_option linter.all false
set_option maxRecDepth 100000
namespace L2
open PySem PySem.Spec PyProof.Rows
abbrev Key:=Sum Int Str
def zm0:Key→Value→Bool
 | .inl k,v=>Value.isInt k v
 | .inr x,v=>Value.isStrOf x v
def keyH (w:World):Key→Int
 | .inl k=>hashInt k
 | .inr x=>hashStr w x
theorem zcC:∀ {k:Key} {v:Value},zm0 k v=true→(∃i t,k=Sum.inl i∧v=Value.int i t)∨(∃x t,k=Sum.inr x∧v=Value.str x t)
 | .inl i,v,h=>by
  obtain⟨t,e⟩:=Value.isInt_shape (k:=i) (v:=v) h
  exact .inl ⟨i,t,rfl,e⟩
 | .inr x,v,h=>by
  obtain⟨t,e⟩:=Value.isStrOf_shape (x:=x) (v:=v) h
  exact .inr ⟨x,t,rfl,e⟩
theorem zoy (a b:Int):decide ((Sum.inl a:Key)=Sum.inl b)=(a==b):=by
 by_cases e:a=b
 ·subst e; simp
 ·have h:¬ (Sum.inl a:Key)=Sum.inl b:=λq=>e (Sum.inl.inj q)
  rw[decide_eq_false h]
  exact(beq_eq_false_iff_ne.mpr e).symm
theorem zpA (a b:Str):decide ((Sum.inr a:Key)=Sum.inr b)=decide (a=b):=by
 by_cases e:a=b
 ·subst e; simp
 ·have h:¬ (Sum.inr a:Key)=Sum.inr b:=λq=>e (Sum.inr.inj q)
  rw[decide_eq_false h,decide_eq_false e]
theorem zri (a:Int)(b:Str):decide ((Sum.inl a:Key)=Sum.inr b)=false:=decide_eq_false (λq=>nomatch q)
theorem zsI (a:Str)(b:Int):decide ((Sum.inr a:Key)=Sum.inl b)=false:=decide_eq_false (λq=>nomatch q)
def zns (prog:Program)(w:World):PySem.KeyKind prog w Key where
 is:=zm0
 hash:=keyH w
 inj:=λv a b ha hb=>by
  rcases zcC ha with ⟨i,t,rfl,rfl⟩ | ⟨x,t,rfl,rfl⟩
  ·rcases zcC hb with ⟨j,u,rfl,e⟩ | ⟨y,u,rfl,e⟩
   ·injection e with e1 _; rw[e1]
   ·exact nomatch e
  ·rcases zcC hb with ⟨j,u,rfl,e⟩ | ⟨y,u,rfl,e⟩
   ·exact nomatch e
   ·injection e with e1 _; rw[e1]
 byValue:=λk v h=>by
  rcases zcC h with ⟨i,t,rfl,rfl⟩ | ⟨x,t,rfl,rfl⟩ <;> rfl
 pyHash:=λhv h=>by
  rcases zcC hv with ⟨i,t,rfl,rfl⟩ | ⟨x,t,rfl,rfl⟩
  ·exact wpAny_pyHash_int h
  ·exact wpAny_pyHash_str h
 eqBool:=λhu hv h=>by
  rcases zcC hu with ⟨i,t,rfl,rfl⟩ | ⟨x,t,rfl,rfl⟩
  ·rcases zcC hv with ⟨j,u,rfl,rfl⟩ | ⟨y,u,rfl,rfl⟩
   ·rw[zoy] at h; exact wpAny_eqBool_int h
   ·rw[zri] at h; exact SeqAt.EqAt.int_str i t y u _ _ _ _ h
  ·rcases zcC hv with ⟨j,u,rfl,rfl⟩ | ⟨y,u,rfl,rfl⟩
   ·rw[zsI] at h; exact SeqAt.EqAt.str_int x t j u _ _ _ _ h
   ·rw[zpA] at h; exact wpAny_eqBool_str h
 «strs»:=λk x t v h=>by
  rcases zcC h with ⟨i,u,rfl,e⟩ | ⟨y,u,rfl,e⟩
  ·exact nomatch e
  ·injection e with e1 _
   subst e1
   cases v <;> rfl
end L2
namespace L2
open PySem PySem.Spec PyProof.Rows
inductive V where
 | non | bl (b:Bool) | int (i:Int) | str (x:Str) | byt (b:Array UInt8) | flt (b:UInt64) | ref (a:Addr) | ty (n:String)
 deriving DecidableEq
def zax:V→Value→Prop
 | .non,u=>u=Value.none
 | .bl b,u=>u=Value.bool b
 | .int i,u=>∃t,u=Value.int i t
 | .str x,u=>∃t,u=Value.str x t
 | .byt b,u=>∃t,u=Value.bytes b t
 | .flt b,u=>∃t,u=Value.float b t
 | .ref a,u=>u=Value.ref a
 | .ty n,u=>u=Value.type n
abbrev zaw:List V→List Value→Prop:=Paired zax
theorem zaw.length {xs:List V}{us:List Value}(r:zaw xs us):xs.length=us.length:=Paired.length r
theorem zaw.get:∀ {xs:List V} {us:List Value} {i:Nat} {x:V},zaw xs us→xs[i]?=some x→∃u,us[i]?=some u∧zax x u
 | _,_,_,_,.nil,e=>by simp at e
 | _,_,0,_,.cons r _,e=>by simp at e; subst e; exact⟨_,rfl,r⟩
 | _,_,i+1,x,.cons _ t,e=>by
  obtain⟨u,h1,h2⟩:=zaw.get (i:=i) (x:=x) t (by simpa using e)
  exact⟨u,by simpa using h1,h2⟩
theorem zaw.set {x:V}{u:Value}(r:zax x u):∀ {xs:List V} {us:List Value} (i:Nat),zaw xs us→zaw (xs.set i x) (us.set i u)
 | _,_,_,.nil=>.nil
 | _,_,0,.cons _ t=>.cons r t
 | _,_,i+1,.cons q t=>.cons q (zaw.set r i t)
theorem zaw.append:∀ {xs ys:List V} {us ws:List Value},zaw xs us→zaw ys ws→zaw (xs++ys) (us++ws)
 | _,_,_,_,.nil,s=>s
 | _,_,_,_,.cons r t,s=>.cons r (zaw.append t s)
theorem zaw.take:∀ {xs:List V} {us:List Value} (n:Nat),zaw xs us→zaw (xs.take n) (us.take n)
 | _,_,0,_=>.nil
 | _,_,_+1,.nil=>.nil
 | _,_,n+1,.cons r t=>.cons r (zaw.take n t)
theorem zaw.drop:∀ {xs:List V} {us:List Value} (n:Nat),zaw xs us→zaw (xs.drop n) (us.drop n)
 | _,_,0,r=>r
 | _,_,_+1,.nil=>.nil
 | _,_,n+1,.cons _ t=>zaw.drop n t
theorem zaw.none_of:∀ {xs:List V} {us:List Value} {i:Nat},zaw xs us→xs[i]?=none→us[i]?=none:=λ{xs us i} r e=>by
 have h1:=r.length
 have h2:xs.length≤i:=Vay.mp e
 exact Vay.mpr (by omega)
def zbm:Option V→Option Value→Prop
 | some v,some u=>zax v u
 | none,none=>True
 | _,_=>False
def KV {κ:Type}:List (κ×V)→List (κ×Value)→Prop:=Paired λ(p:κ×V) (q:κ×Value)=>p.1=q.1∧zax p.2 q.2
def kV:Key→V
 | .inl i=>.int i
 | .inr x=>.str x
inductive HO where
  | lst (xs:List V)
  | tup (xs:List V)
  | dK (kvs:List (Key×V)) | dT (kvs:List (List Key×V))
  | set (S:Int→Bool) (n:Nat)
  | ins (C dx:Addr) (fs:List (Str×V))
  | own (x:Addr)
  | xd (fs:List (Str×V))
  | met (f x:Addr)
  | rng (lo hi:Int)
  | frz (o:Obj) (u:HO)
  | tbl (ps:Array Value)
  | ext (φ:Heap→Prop)
abbrev Hp:=Addr→Option HO
def upd (H:Hp)(a:Addr)(o:HO):Hp:=λb=>if b=a then some o else H b
theorem zc0 {H:Hp}{a:Addr}{o:HO}:upd H a o a=some o:=by unfold upd; rw[if_pos rfl]
theorem za4 {H:Hp}{a b:Addr}{o:HO}(h:b≠a):upd H a o b=H b:=by unfold upd; rw[if_neg h]
theorem zkX {H:Hp}{a b:Addr}{o u:HO}(h:H a=some o)(h':H b=some u)(d:o≠u):a≠b:=by
 intro e; subst e; rw[h] at h'; exact d (Option.some.inj h')
theorem zdd {H:Hp}{a b:Addr}{o:HO}(h:H a=some o)(h':H b=none):a≠b:=by
 intro e; subst e; rw[h] at h'; cases h'
section
variable (P:Program)(w:World)
def zbc (H:Hp)(h:Heap)(a:Addr):HO→Prop
 | .lst xs=>xs.length≤sizeLine∧∃(its:List Value) (n:Nat),zaw xs its∧h.get? a=some { cls:=.type "list",data:=.seq its.toArray n }
 | .tup xs=>xs.length≤sizeLine∧∃its:List Value,zaw xs its∧IsTup h a its.toArray
 | .dK kvs=>kvs.length≤sizeLine∧(a==sysModules)=false∧∃vs,KV kvs vs∧h.DictOf (zns P w) a vs
 | .dT kvs=>kvs.length≤sizeLine∧(a==sysModules)=false∧∃xs:List (List Key×Addr×Value),
   Paired (λ(p:List Key×V) (q:List Key×Addr×Value)=>p.1=q.1∧H q.2.1=some (.tup (p.1.map kV))∧zax p.2 q.2.2) kvs xs∧
   ∃o es ep,h.get? a=some o∧o.ExactDict∧o.data=.dict es ep∧es.toList=xs.map (entryOfKey (tupleKind (zns P w)))∧(xs.map (·.1)).Nodup
 | .set S n=>h.SetOf (intKind P w) a S n
 | .ins C dx fs=>H dx=some (.own a)∧fs.length≤1000∧dx≠a∧h.get? a=some (PySem.W.instObj C dx)∧
   ∃mA,h.Ns1 dx mA∧(∀f,zbm (fs.lookup f) (mA f))∧PySem.Within mA (fs.map (·.1))
 | .own _=>∃o,h.get? a=some o
 | .xd fs=>∃mA,h.Ns1 a mA∧∀f,zbm (fs.lookup f) (mA f)
 | .rng lo hi=>∃t u v,h.get? a=some { cls:=.type "range",data:=.fields #[.int lo t,.int hi u,.int 1 v] }
 | .frz o u=>h.get? a=some o∧zbc H h a u
 | .tbl ps=>h.get? a=some { cls:=.none,data:=.fields ps }
 | .met f x=>h.get? a=some (PySem.W.methodObj (.ref f) (.ref x))
 | .ext φ=>φ h∧(∃o,h.get? a=some o)∧∀h1 h2:Heap,φ h1→(∀o,h1.get? a=some o→h2.get? a=some o)→φ h2
def HOk (H:Hp)(h:Heap):Prop:=∀a o,H a=some o→zbc P w H h a o
end
section
variable {P:Program}{w:World}{H H':Hp}{h h':Heap}{a:Addr}{o:HO}
theorem zbc.lt (x:zbc P w H h a o):a<h.objs.size:=by
 cases o with
 | lst xs=>obtain⟨_,_,_,_,e⟩:=x; exact Heap.lt_size e
 | tup xs=>obtain⟨_,_,_,p⟩:=x; exact p.lt
 | dK kvs=>obtain⟨_,_,_,_,o,_,_,e,_⟩:=x; exact Heap.lt_size e
 | dT kvs=>obtain⟨_,_,_,_,o,_,_,e,_⟩:=x; exact Heap.lt_size e
 | set S n=>obtain⟨o,_,_,_,e,_⟩:=x; exact Heap.lt_size e
 | ins C dx fs=>obtain⟨_,_,_,e,_⟩:=x; exact Heap.lt_size e
 | own y=>obtain⟨_,e⟩:=x; exact Heap.lt_size e
 | xd fs=>obtain⟨_,⟨_,_,_,e,_⟩,_⟩:=x; exact Heap.lt_size e
 | rng lo hi=>obtain⟨_,_,_,e⟩:=x; exact Heap.lt_size e
 | frz ob u=>obtain⟨e,_⟩:=x; exact Heap.lt_size e
 | tbl ps=>exact Heap.lt_size (show h.get? a=some _ from x)
 | met f y=>exact Heap.lt_size (show h.get? a=some _ from x)
 | ext φ=>obtain⟨_,⟨_,e⟩,_⟩:=x; exact Heap.lt_size e
theorem Paired.mapP {α β:Type}{F G:α→β→Prop}:∀ {l₁:List α} {l₂:List β},Paired F l₁ l₂→(∀a b,F a b→G a b)→Paired G l₁ l₂
 | _,_,.nil,_=>.nil
 | _,_,.cons r t,f=>.cons (f _ _ r) (Paired.mapP t f)
theorem zbc.stay (x:zbc P w H h a o)(k:∀b u,(b=a∨H b=some (.own a))→h.get? b=some u→h'.get? b=some u)
  (ho:∀b,H b=some (.own a)→H' b=some (.own a))(ht:∀b xs,H b=some (.tup xs)→H' b=some (.tup xs)):zbc P w H' h' a o:=by
 induction o with
 | lst xs=>obtain⟨z,its,n,r,e⟩:=x; exact⟨z,its,n,r,k _ _ (.inl rfl) e⟩
 | tup xs=>obtain⟨z,its,r,ob,e,c⟩:=x; exact⟨z,its,r,ob,k _ _ (.inl rfl) e,c⟩
 | dK kvs=>obtain⟨z,y,vs,r,ob,es,ep,e,c⟩:=x; exact⟨z,y,vs,r,ob,es,ep,k _ _ (.inl rfl) e,c⟩
 | dT kvs=>
  obtain⟨z,y,xs,r,ob,es,ep,e,c⟩:=x
  exact⟨z,y,xs,Paired.mapP r λp q z=>⟨z.1,ht _ _ z.2.1,z.2.2⟩,ob,es,ep,k _ _ (.inl rfl) e,c⟩
 | set S n=>obtain⟨ob,es,ep,t,e,c⟩:=x; exact⟨ob,es,ep,t,k _ _ (.inl rfl) e,c⟩
 | ins C dx fs=>
  obtain⟨d,z,ne,e,mA,⟨od,es,ep,e2,c⟩,r⟩:=x
  exact⟨ho _ d,z,ne,k _ _ (.inl rfl) e,mA,⟨od,es,ep,k _ _ (.inr d) e2,c⟩,r⟩
 | own y=>obtain⟨ob,e⟩:=x; exact⟨ob,k _ _ (.inl rfl) e⟩
 | xd fs=>obtain⟨mA,⟨od,es,ep,e,c⟩,r⟩:=x; exact⟨mA,⟨od,es,ep,k _ _ (.inl rfl) e,c⟩,r⟩
 | rng lo hi=>obtain⟨t,u,v,e⟩:=x; exact⟨t,u,v,k _ _ (.inl rfl) e⟩
 | frz ob u ih=>obtain⟨e,q⟩:=x; exact⟨k _ _ (.inl rfl) e,ih q⟩
 | tbl ps=>
  have e:h.get? a=some { cls:=.none,data:=.fields ps }:=x
  show h'.get? a=some { cls:=.none,data:=.fields ps }
  exact k a _ (.inl rfl) e
 | met f y=>
  have e:h.get? a=some (PySem.W.methodObj (.ref f) (.ref y)):=x
  show h'.get? a=some (PySem.W.methodObj (.ref f) (.ref y))
  exact k a _ (.inl rfl) e
 | ext φ=>obtain⟨p,⟨o,e⟩,st⟩:=x; exact⟨st _ _ p λo q=>k _ _ (.inl rfl) q,⟨o,k _ _ (.inl rfl) e⟩,st⟩
theorem HOk.lt (x:HOk P w H h)(e:H a=some o):a<h.objs.size:=(x a o e).lt
theorem HOk.fresh (x:HOk P w H h)(e:h.objs.size≤a):H a=none:=by
 cases q:H a with
 | none=>rfl
 | some u=>exact absurd (Vao (x.lt q) e) (VaG _)
theorem HOk.kept (x:HOk P w H h)(k:∀b u,h.get? b=some u→h'.get? b=some u):HOk P w H h':=λa o e=>
 (x a o e).stay (λb u _ q=>k b u q) (λ_ q=>q) λ_ _ q=>q
theorem HOk.laid (x:HOk P w H h)(k:∀b u,h.get? b=some u→h'.get? b=some u)(hp:h.objs.size≤a)(new:zbc P w (upd H a o) h' a o):HOk P w (upd H a o) h':=λb u e=>by
 have hn:=x.fresh hp
 by_cases hb:b=a
 ·subst hb; rw[zc0] at e; cases e; exact new
 ·rw[za4 hb] at e
  exact(x b u e).stay (λc v _ q=>k c v q) (λc q=>by rw[za4 (zdd q hn)]; exact q) λc xs q=>by rw[za4 (zdd q hn)]; exact q
end
def Rd (H:Hp)(a:Addr)(u:HO):Prop:=H a=some u∨∃o,H a=some (.frz o u)
theorem Rd.of {H:Hp}{a:Addr}{u:HO}(h:H a=some u):Rd H a u:=.inl h
theorem Rd.ok {P:Program}{w:World}{H:Hp}{h:Heap}{a:Addr}{u:HO}(r:Rd H a u)(x:HOk P w H h):zbc P w H h a u:=by
 rcases r with r | ⟨o,r⟩
 ·exact x a u r
 ·obtain⟨_,q⟩:=x a _ r
  exact q
def Mut:Option HO→Prop
 | some (.lst _)=>True
 | some (.dK _)=>True
 | some (.dT _)=>True
 | some (.set _ _)=>True
 | some (.ins _ _ _)=>True
 | some (.ext _)=>True
 | _=>False
section
variable {P:Program}{w:World}{H:Hp}{h h':Heap}{x e:Addr}{o':HO}
theorem HOk.write (ok:HOk P w H h)(mu:Mut (H x))(he:e=x∨H e=some (.own x))(k:∀b u,b≠e→h.get? b=some u→h'.get? b=some u)(heo:∃u,h'.get? e=some u)
  (new:zbc P w (upd H x o') h' x o'):HOk P w (upd H x o') h':=λb u q=>by
 have nown:∀c y,H c=some (.own y)→c≠x:=λc y r z=>by subst z; rw[r] at mu; exact mu
 have ntup:∀c xs,H c=some (.tup xs)→c≠x:=λc xs r z=>by subst z; rw[r] at mu; exact mu
 by_cases hb:b=x
 ·subst hb; rw[zc0] at q; cases q; exact new
 ·rw[za4 hb] at q
  by_cases hbe:b=e
  ·have q':H b=some (.own x):=by
    rcases he with z | z
    ·exact absurd (hbe.trans z) hb
    ·rw[hbe]; exact z
   rw[q] at q'; cases q'
   obtain⟨v,hv⟩:=heo
   exact⟨v,by rw[hbe]; exact hv⟩
  ·refine(ok b u q).stay (λc v hc r=>k c v ?_ r) (λc r=>by rw[za4 (nown c b r)]; exact r) λc xs r=>by rw[za4 (ntup c xs r)]; exact r
   rcases hc with rfl | hc
   ·exact hbe
   ·rintro rfl
    rcases he with z | z
    ·exact nown c b hc z
    ·rw[hc] at z; cases z; exact hb rfl
end
structure Un (fs ex:List Addr)(H H':Hp)(h h':Heap):Prop where
 keep:∀b o,h.get? b=some o→H b=none→b ∉ fs→b ∉ ex→h'.get? b=some o
 slot:∀b o,h.get? b=some o→H b=none→b∈fs→b ∉ ex→∃sl,h'.get? b=some { o with slots:=sl }
 free:∀b o,h.get? b=some o→H b=none→b ∉ ex→H' b=none
 there:∀b o,h.get? b=some o→b ∉ ex→∃o',h'.get? b=some o'
 tups:∀b xs,H b=some (.tup xs)→H' b=some (.tup xs)
 frzs:∀b o u,H b=some (.frz o u)→H' b=some (.frz o u)
 tbls:∀b ps,H b=some (.tbl ps)→∃more,H' b=some (.tbl (ps++more))
section
variable {fs fs' ex ex':List Addr}{H H1 H2:Hp}{h h1 h2 h':Heap}{a x e:Addr}{o:HO}
theorem Un.any (u:Un fs ex H H1 h h1){b:Addr}{ob:Obj}(q:h.get? b=some ob)(n:H b=none)(hx:b ∉ ex):∃sl,h1.get? b=some { ob with slots:=sl }:=by
 by_cases hb:b∈fs
 ·exact u.slot b ob q n hb hx
 ·exact⟨ob.slots,u.keep b ob q n hb hx⟩
theorem Un.trans (a:Un fs ex H H1 h h1)(b:Un fs ex H1 H2 h1 h2):Un fs ex H H2 h h2 where
 keep:=λc ob q n hc hx=>b.keep c ob (a.keep c ob q n hc hx) (a.free c ob q n hx) hc hx
 slot:=λc ob q n hc hx=>by
  obtain⟨sl,e1⟩:=a.slot c ob q n hc hx
  obtain⟨sl',e2⟩:=b.slot c _ e1 (a.free c ob q n hx) hc hx
  exact⟨sl',e2⟩
 free:=λc ob q n hx=>by
  obtain⟨o',e1⟩:=a.there c ob q hx
  exact b.free c o' e1 (a.free c ob q n hx) hx
 there:=λc ob q hx=>by
  obtain⟨o',e1⟩:=a.there c ob q hx
  exact b.there c o' e1 hx
 tups:=λc xs q=>b.tups c xs (a.tups c xs q)
 frzs:=λc ob xs q=>b.frzs c ob xs (a.frzs c ob xs q)
 tbls:=λc ps q=>by
  obtain⟨m1,e1⟩:=a.tbls c ps q
  obtain⟨m2,e2⟩:=b.tbls c _ e1
  exact⟨m1++m2,by rw[e2,Array.append_assoc]⟩
theorem Un.kept (k:∀b u,h.get? b=some u→h'.get? b=some u):Un fs ex H H h h':=
 ⟨λb ob q _ _ _=>k b ob q,λb ob q _ _ _=>⟨ob.slots,k b ob q⟩,λ_ _ _ n _=>n,λb ob q _=>⟨ob,k b ob q⟩,λ_ _ q=>q,λ_ _ _ q=>q,λ_ ps q=>⟨#[],by rw[q]; simp⟩⟩
theorem Un.refl:Un fs ex H H h h:=Un.kept λ_ _ q=>q
theorem Un.laid (k:∀b u,h.get? b=some u→h'.get? b=some u)(hp:h.objs.size≤a)(hn:H a=none):Un fs ex H (upd H a o) h h' where
 keep:=λb u q _ _ _=>k b u q
 slot:=λb u q _ _ _=>⟨u.slots,k b u q⟩
 free:=λb u q n _=>by rw[za4 (Vaq (Vao (Heap.lt_size q) hp))]; exact n
 there:=λb u q _=>⟨u,k b u q⟩
 tups:=λb xs q=>by rw[za4 (zdd q hn)]; exact q
 frzs:=λb u xs q=>by rw[za4 (zdd q hn)]; exact q
 tbls:=λb ps q=>⟨#[],by rw[za4 (zdd q hn),q]; simp⟩
theorem Un.write (mu:Mut (H x))(he:e=x∨H e=some (.own x))(k:∀b u,b≠e→h.get? b=some u→h'.get? b=some u)(heo:∃u,h'.get? e=some u):Un fs ex H (upd H x o) h h':=by
 have hx:∀b,H b=none→b≠x:=λb n z=>by subst z; rw[n] at mu; exact mu
 have hb:∀b,H b=none→b≠e:=λb n z=>by
  subst z
  rcases he with r | r
  ·exact hx b n r
  ·rw[n] at r; cases r
 have hm:∀b u,H b=some u→¬ Mut (some u)→b≠x:=λb u q nm z=>by subst z; rw[q] at mu; exact nm mu
 refine⟨λb u q n _ _=>k b u (hb b n) q,λb u q n _ _=>⟨u.slots,k b u (hb b n) q⟩,λb u q n _=>by rw[za4 (hx b n)]; exact n,λb u q _=>?_,
  λb xs q=>by rw[za4 (hm b _ q λz=>z)]; exact q,λb u xs q=>by rw[za4 (hm b _ q λz=>z)]; exact q,λb ps q=>⟨#[],by rw[za4 (hm b _ q λz=>z),q]; simp⟩⟩
 by_cases hbe:b=e
 ·subst hbe; exact heo
 ·exact⟨u,k b u hbe q⟩
theorem Un.mono (u:Un fs ex H H1 h h1)(hs:∀b∈fs,b∈fs')(hx:∀b∈ex,b∈ex'):Un fs' ex' H H1 h h1:=
 ⟨λb ob q n hb he=>u.keep b ob q n (λz=>hb (hs b z)) λz=>he (hx b z),λ_ _ q n _ he=>u.any q n λz=>he (hx _ z),λb ob q n he=>u.free b ob q n λz=>he (hx b z),λb ob q he=>u.there b ob q λz=>he (hx b z),u.tups,u.frzs,u.tbls⟩
end
def trk (h:Heap)(H:Hp):List Addr:=(List.range h.objs.size).filter λa=>(H a).isSome
def zcA (h:Heap)(H:Hp):Heap:=PySem.W.hideAll h (trk h H)
theorem zoD (h:Heap)(H:Hp):(zcA h H).objs.size=h.objs.size:=PySem.W.hideAll_size _ _
theorem zrF {h:Heap}{H:Hp}{b:Addr}{o:Obj}(e:h.get? b=some o)(n:H b=none):(zcA h H).get? b=some o:=
 PySem.W.hideAll_get _ e λhm=>by
  have q:(H b).isSome=true:=(List.mem_filter.mp hm).2
  rw[n] at q; simp at q
theorem zrk {h:Heap}{H:Hp}{b:Addr}{o:Obj}(e:(zcA h H).get? b=some o):h.get? b=some o∧H b=none:=by
 have e':h.get? b=some o:=PySem.W.of_hideAll (trk h H) e
 refine⟨e',?_⟩
 cases q:H b with
 | none=>rfl
 | some x=>
  have hm:b∈trk h H:=List.mem_filter.mpr ⟨List.mem_range.mpr (Heap.lt_size e'),by simp[q]⟩
  have z:(zcA h H).get? b=none:=PySem.W.hideAll_none (trk h H) hm
  rw[z] at e; cases e
def zq6 (g h:Heap)(L:Addr):List (Addr×Obj):=(List.range h.objs.size).filterMap λa=>if a=L∨(g.get? a).isSome=true then none else (h.get? a).map λo=>(a,o)
def zba (g h:Heap)(L d:Addr):List (Addr×Obj):=(zq6 g h L).filter λp=>decide (p.1≠d)
end L2
namespace L2
open PySem PySem.Spec PyProof.Rows
structure Mod (K:PySem.W.Frag)(mg:Str→Option Value)(base:Heap):Prop where
 kin:K.In base
 glob:base.Ns mainGlobals mg
 blt:∃mb,base.Ns builtinsNs mb∧∀x:Str,x≠"__name__"→mb x=bootBuiltins x
 nolimit:base.NoLimit
structure Cx where
 prog:Program
 w:World
 K:PySem.W.Frag
 mg:Str→Option Value
 base:Heap
 A:Around
 N:List Str
 s₀:Shared
 H₀:Hp
 env:Env
 outer:List Env
 stack:List Env
 ex:List Addr
 fn:Str→Bool
 calm:Bool
 pn:List (Addr×Obj)
 xe:Value→Shared→Prop
def frs (l:List Env):List Addr:=l.filterMap (·.frame)
abbrev Cx.fs (X:Cx):List Addr:=frs X.outer
def Vis (sc:Scope)(x:Str):Prop:=sc.names.lookup x=some .local∨sc.names.lookup x=some .cell∨sc.names.lookup x=some .free
def Loc (sc:Scope)(x:Str):Prop:=sc.names.lookup x=some .local∨sc.names.lookup x=some .cell
def Look (env:Env)(h:Heap)(m:Str→Option Value)(x:Str)(u:Value):Prop:=
 (env.kindOf x=some .local∧m x=some u)∨((env.kindOf x=some .cell∨env.kindOf x=some .free)∧∃c,env.cells.lookup x=some c∧h.IsCell c (some u))
structure Cx.Ok (X:Cx):Prop where
 mod:Mod X.K X.mg X.base
 kind:X.env.scope.kind=.function
 glob:X.env.globals=mainGlobals
 blt:X.env.builtins=builtinsNs
 above:X.s₀.heap.objs.size≤X.env.locals
 inj:∀x y c,X.env.cells.lookup x=some c→X.env.cells.lookup y=some c→x=y
 has:∀x,(X.env.kindOf x=some .cell∨X.env.kindOf x=some .free)→∃c,X.env.cells.lookup x=some c
 cab:∀x c,X.fn x=true→X.env.cells.lookup x=some c→X.s₀.heap.objs.size≤c
 hd:X.calm=true→X.A.handled=none
 frames:X.A.frames=some X.stack
 stk:X.stack=X.outer∨(X.stack=X.env::X.outer∧X.env.frame=some X.env.locals)
 exf:∀b∈X.ex,b≠X.env.locals∧∀x c,X.env.cells.lookup x=some c→c≠b
 bs:∀b o,X.base.get? b=some o→X.s₀.heap.get? b=some o∧X.H₀ b=none
 bsz:X.base.objs.size≤X.s₀.heap.objs.size
 noex:∀b o,X.base.get? b=some o→b ∉ X.ex
 exfs:∀b∈X.ex,b ∉ X.fs
 funs:X.s₀.heap.FunFrames X.base X.outer
 frf:∀b∈X.fs,X.H₀ b=none
structure Inv (X:Cx)(pins:List (Addr×Obj))(σ:List (Option V))(H:Hp)(s:Shared):Prop where
 ok:X.Ok
 os:s.os=X.s₀.os
 bare:AllBare s.gens
 base:Un X.fs X.ex X.H₀ H X.s₀.heap s.heap
 loc:∃m,s.heap.Ns X.env.locals m∧∀(i:Nat) (x:Str) (v:V),X.N[i]?=some x→σ[i]?=some (some v)→Vis X.env.scope x→∃u,zax v u∧Look X.env s.heap m x u
 cell:∀x c,X.env.cells.lookup x=some c→∃v,s.heap.IsCell c v
 free:H X.env.locals=none
 freeC:∀x c,X.env.cells.lookup x=some c→H c=none
 pin:∀p∈X.pn++pins,s.heap.get? p.1=some p.2∧H p.1=none∧p.1≠X.env.locals∧p.1 ∉ X.fs∧∀v,p.2.data≠.cell v
 hok:HOk X.prog X.w H s.heap
 len:σ.length=X.N.length
section
variable {X:Cx}{pins:List (Addr×Obj)}{σ:List (Option V)}{H H':Hp}{s:Shared}{h':Heap}
theorem Cx.Ok.nofr (ok:X.Ok){b:Addr}{o:Obj}(e:X.base.get? b=some o):b ∉ X.fs:=λhb=>by
 have:=(ok.funs.mem hb).1
 rw[e] at this; cases this
theorem Inv.bs (I:Inv X pins σ H s):∀b o,X.base.get? b=some o→s.heap.get? b=some o∧H b=none:=λb o e=>
 ⟨I.base.keep b o (I.ok.bs b o e).1 (I.ok.bs b o e).2 (I.ok.nofr e) (I.ok.noex b o e),I.base.free b o (I.ok.bs b o e).1 (I.ok.bs b o e).2 (I.ok.noex b o e)⟩
theorem Inv.bk (I:Inv X pins σ H s):∀b o,X.base.get? b=some o→s.heap.get? b=some o:=λb o e=>(I.bs b o e).1
theorem Inv.mod (I:Inv X pins σ H s):Mod X.K X.mg X.base:=I.ok.mod
theorem Inv.kIn (I:Inv X pins σ H s):X.K.In s.heap:=I.ok.mod.kin.keeps I.bk
theorem Inv.nolimit (I:Inv X pins σ H s):s.heap.NoLimit:=I.ok.mod.nolimit.keeps I.bk
theorem Inv.fr (I:Inv X pins σ H s):∃m,Fr X.base X.env.locals s.heap m:=
 let ⟨m,hn,_⟩:=I.loc
 ⟨m,hn,I.bk,Vas I.ok.bsz I.ok.above⟩
theorem Inv.lt (I:Inv X pins σ H s):X.env.locals<s.heap.objs.size:=let ⟨_,hn,_⟩:=I.loc; hn.lt
theorem Inv.sz (I:Inv X pins σ H s):X.s₀.heap.objs.size≤s.heap.objs.size:=Vas I.ok.above (VaN I.lt)
theorem Inv.nofs (I:Inv X pins σ H s){a:Addr}(h:s.heap.objs.size≤a):a ∉ X.fs:=λhb=>by
 obtain⟨_,o,ho,_⟩:=I.ok.funs.mem hb
 exact absurd (Vao (Heap.lt_size ho) (Vas I.sz h)) (VaG _)
theorem Inv.cne (I:Inv X pins σ H s):∀x c,X.env.cells.lookup x=some c→c≠X.env.locals:=λx c e z=>by
 obtain⟨v,o,ho,hd⟩:=I.cell x c e
 obtain⟨m,⟨o',es,ep,ho',hd',_⟩,_⟩:=I.loc
 rw[z,ho'] at ho; cases ho; rw[hd'] at hd; cases hd
theorem Inv.funs (I:Inv X pins σ H s):s.heap.FunFrames X.base X.outer:=by
 have all:∀(l:List Env),(∀b∈frs l,b∈X.fs)→X.s₀.heap.FunFrames X.base l→s.heap.FunFrames X.base l:=by
  intro l
  induction l with
  | nil=>intro _ _; trivial
  | cons env r ih=>
   intro hs hl
   obtain⟨hk,⟨L,o,hf,hn,ho,hd⟩,hr⟩:=hl
   have hL:L∈X.fs:=hs L (by unfold frs; rw[List.filterMap_cons,hf]; exact VaT)
   obtain⟨sl,e⟩:=I.base.slot L o ho (I.ok.frf L hL) hL λz=>I.ok.exfs L z hL
   exact⟨hk,⟨L,_,hf,hn,e,hd⟩,ih (λb hb=>hs b (by unfold frs; rw[List.filterMap_cons,hf]; exact Vaz _ hb)) hr⟩
 exact all X.outer (λ_ hb=>hb) I.ok.funs
theorem Inv.stack (I:Inv X pins σ H s):s.heap.FunFrames X.base X.stack:=by
 rcases I.ok.stk with e | ⟨e,hf⟩
 ·rw[e]; exact I.funs
 ·rw[e]
  obtain⟨m,hn,_⟩:=I.loc
  refine .cons (by rw[I.ok.kind]; decide) hf hn ?_ I.funs
  exact Heap.get?_none_of_le (Vas I.ok.bsz I.ok.above)
theorem Inv.stkSub (I:Inv X pins σ H s):∀b∈frs X.stack,b∈X.env.locals::X.fs:=λb hb=>by
 rcases I.ok.stk with e | ⟨e,hf⟩
 ·rw[e] at hb; exact Vaz _ hb
 ·rw[e] at hb
  unfold frs at hb
  rw[List.filterMap_cons,hf] at hb
  exact hb
theorem Inv.stkFree (I:Inv X pins σ H s):∀b∈frs X.stack,H b=none:=λb hb=>by
 rcases Vae.mp (I.stkSub b hb) with e | hb
 ·rw[e]; exact I.free
 ·obtain⟨_,o,ho,_⟩:=I.ok.funs.mem hb
  exact I.base.free b o ho (I.ok.frf b hb) λz=>I.ok.exfs b z hb
theorem Inv.step {g':Array GenState}{t':Nat}{d':Drawn}{ch:List Addr}(I:Inv X pins σ H s)
  (hch:∀b∈ch,(b∈X.ex∨X.s₀.heap.objs.size≤b)∧b≠X.env.locals∧(∀x c,X.env.cells.lookup x=some c→c≠b)∧∀p∈X.pn++pins,p.1≠b)
  (keep:∀b o,b≠X.env.locals→b ∉ X.fs→b ∉ ch→s.heap.get? b=some o→H b=none→h'.get? b=some o)
  (slot:∀b o,b≠X.env.locals→b∈X.fs→b ∉ ch→s.heap.get? b=some o→H b=none→∃sl,h'.get? b=some { o with slots:=sl })(free:∀b o,b ∉ ch→s.heap.get? b=some o→H b=none→H' b=none)
  (there:∀b o,b ∉ ch→s.heap.get? b=some o→∃o',h'.get? b=some o')
  (tups:∀b xs,H b=some (.tup xs)→H' b=some (.tup xs))(frzs:∀b o u,H b=some (.frz o u)→H' b=some (.frz o u))(tbls:∀b ps,H b=some (.tbl ps)→∃more,H' b=some (.tbl (ps++more)))
  (ns:∀m,s.heap.Ns X.env.locals m→h'.Ns X.env.locals m)(hok:HOk X.prog X.w H' h')(hg:AllBare g'):
  Inv X pins σ H' { s with heap:=h',gens:=g',drawn:=d',toks:=t' }:=by
 have neL:∀b o,X.s₀.heap.get? b=some o→b≠X.env.locals:=λb o e=>Vaq (Vao (Heap.lt_size e) I.ok.above)
 have neC:∀b o,X.s₀.heap.get? b=some o→b ∉ X.ex→b ∉ ch:=λb o e hx hb=>by
  rcases (hch b hb).1 with z | z
  ·exact hx z
  ·exact absurd (Vao (Heap.lt_size e) z) (VaG _)
 have cellK:∀x c,X.env.cells.lookup x=some c→∀v,s.heap.IsCell c v→h'.IsCell c v:=λx c e v ⟨o,ho,hd⟩=>by
  have nch:c ∉ ch:=λz=>(hch c z).2.2.1 x c e rfl
  by_cases hc:c∈X.fs
  ·obtain⟨sl,q⟩:=slot c o (I.cne x c e) hc nch ho (I.freeC x c e)
   exact⟨_,q,hd⟩
  ·exact⟨o,keep c o (I.cne x c e) hc nch ho (I.freeC x c e),hd⟩
 refine⟨I.ok,I.os,hg,⟨λb o e n hb hx=>?_,λb o e n hb hx=>?_,λb o e n hx=>?_,λb o e hx=>?_,λb xs e=>tups b xs (I.base.tups b xs e),λb o xs e=>frzs b o xs (I.base.frzs b o xs e),λb ps e=>?_⟩,?_,λx c e=>?_,?_,λx c e=>?_,λp hp=>?_,hok,I.len⟩
 ·exact keep b o (neL b o e) hb (neC b o e hx) (I.base.keep b o e n hb hx) (I.base.free b o e n hx)
 ·obtain⟨sl,e1⟩:=I.base.slot b o e n hb hx
  obtain⟨sl',e2⟩:=slot b _ (neL b o e) hb (neC b o e hx) e1 (I.base.free b o e n hx)
  exact⟨sl',e2⟩
 ·obtain⟨o',e1⟩:=I.base.there b o e hx
  exact free b o' (neC b o e hx) e1 (I.base.free b o e n hx)
 ·obtain⟨o',e1⟩:=I.base.there b o e hx
  exact there b o' (neC b o e hx) e1
 ·obtain⟨m1,e1⟩:=I.base.tbls b ps e
  obtain⟨m2,e2⟩:=tbls b _ e1
  exact⟨m1++m2,by rw[e2,Array.append_assoc]⟩
 ·obtain⟨m,hn,hl⟩:=I.loc
  refine⟨m,ns m hn,λi x v e1 e2 e3=>?_⟩
  obtain⟨u,r,l⟩:=hl i x v e1 e2 e3
  refine⟨u,r,?_⟩
  rcases l with l | ⟨k,c,e,z⟩
  ·exact .inl l
  ·exact .inr ⟨k,c,e,cellK x c e _ z⟩
 ·obtain⟨v,z⟩:=I.cell x c e
  exact⟨v,cellK x c e v z⟩
 ·obtain⟨m,⟨o,_,_,ho,_⟩,_⟩:=I.loc
  exact free _ o (λz=>(hch _ z).2.1 rfl) ho I.free
 ·obtain⟨v,o,ho,hd⟩:=I.cell x c e
  exact free c o (λz=>(hch c z).2.2.1 x c e rfl) ho (I.freeC x c e)
 ·obtain⟨e,n,ne,nf,d⟩:=I.pin p hp
  have nch:p.1 ∉ ch:=λz=>(hch p.1 z).2.2.2 p hp rfl
  exact⟨keep p.1 p.2 ne nf nch e n,free p.1 p.2 nch e n,ne,nf,d⟩
theorem Inv.un {t':Nat}(I:Inv X pins σ H s)(u:Un X.fs [] H H' s.heap h')(hok:HOk X.prog X.w H' h'):Inv X pins σ H' { s with heap:=h',toks:=t' }:=by
 obtain⟨m,⟨o,es,ep,ho,r⟩,_⟩:=id I.loc
 obtain⟨sl,hL⟩:=u.any ho I.free (by simp)
 exact I.step (g':=s.gens) (d':=s.drawn) (ch:=[]) (λ_ z=>nomatch z) (λb o _ hb _ e n=>u.keep b o e n hb (by simp)) (λb o _ hb _ e n=>u.slot b o e n hb (by simp)) (λb o _ e n=>u.free b o e n (by simp)) (λb o _ e=>u.there b o e (by simp)) u.tups u.frzs u.tbls (λm' hm=>by
  obtain⟨o',es',ep',ho',r'⟩:=hm
  rw[ho] at ho'; cases ho'
  exact⟨_,es',ep',hL,r'⟩) hok I.bare
theorem Inv.call {g':Array GenState}{t':Nat}{d':Drawn}{ch:List Addr}(I:Inv X pins σ H s)(u:Un (frs X.stack) ch H H' s.heap h')(hok:HOk X.prog X.w H' h')(hg:AllBare g')
  (hch:∀b∈ch,(b∈X.ex∨X.s₀.heap.objs.size≤b)∧b≠X.env.locals∧(∀x c,X.env.cells.lookup x=some c→c≠b)∧∀p∈X.pn++pins,p.1≠b):
  Inv X pins σ H' { s with heap:=h',gens:=g',drawn:=d',toks:=t' }:=by
 obtain⟨m,⟨o,es,ep,ho,r⟩,_⟩:=id I.loc
 obtain⟨sl,hL⟩:=u.any ho I.free λz=>(hch _ z).2.1 rfl
 exact I.step (ch:=ch) hch (λb o hL hb hc e n=>u.keep b o e n (λz=>(Vae.mp (I.stkSub b z)).elim hL hb) hc) (λb o _ _ hc e n=>u.any e n hc) (λb o hc e n=>u.free b o e n hc) (λb o hc e=>u.there b o e hc) u.tups u.frzs u.tbls (λm' hm=>by
  obtain⟨o',es',ep',ho',r'⟩:=hm
  rw[ho] at ho'; cases ho'
  exact⟨_,es',ep',hL,r'⟩) hok hg
theorem Inv.turned {t':Nat}{it:Addr}(I:Inv X pins σ H s)(k:∀b o,b≠it→s.heap.get? b=some o→h'.get? b=some o)(hn:H it=none)(hL:it≠X.env.locals)
  (h1:it∈X.ex∨X.s₀.heap.objs.size≤it)(h2:∀x c,X.env.cells.lookup x=some c→c≠it)(h3:∀p∈X.pn++pins,p.1≠it):Inv X pins σ H { s with heap:=h',toks:=t' }:=by
 have nit:∀b u,H b=some u→b≠it:=λb u e z=>by rw[z,hn] at e; cases e
 refine I.step (g':=s.gens) (d':=s.drawn) (ch:=[it]) (λb hb=>?_) (λb o _ _ hc e _=>k b o (λz=>hc (by simp[z])) e) (λb o _ _ hc e _=>⟨o.slots,k b o (λz=>hc (by simp[z])) e⟩) (λ_ _ _ _ n=>n)
  (λb o hc e=>⟨o,k b o (λz=>hc (by simp[z])) e⟩) (λ_ _ e=>e) (λ_ _ _ e=>e) (λb ps e=>⟨#[],by rw[e]; simp⟩) (λm hm=>?_) (λb u e=>?_) I.bare
 ·have e:b=it:=by simpa using hb
  subst e
  exact⟨h1,hL,h2,h3⟩
 ·obtain⟨o,es,ep,ho,r⟩:=hm
  exact⟨o,es,ep,k _ o (Ne.symm hL) ho,r⟩
 ·refine(I.hok b u e).stay (λc v hc q=>k c v ?_ q) (λ_ q=>q) λ_ _ q=>q
  rcases hc with z | z
  ·rw[z]; exact nit b u e
  ·exact nit c _ z
theorem Inv.tok (I:Inv X pins σ H s)(t:Nat):Inv X pins σ H { s with toks:=t }:=I.un (h':=s.heap) (t':=t) Un.refl I.hok
theorem Inv.kept {t':Nat}(I:Inv X pins σ H s)(k:∀b u,s.heap.get? b=some u→h'.get? b=some u):Inv X pins σ H { s with heap:=h',toks:=t' }:=I.un (Un.kept k) (I.hok.kept k)
theorem Inv.laid {a:Addr}{o:HO}{t':Nat}(I:Inv X pins σ H s)(k:∀b u,s.heap.get? b=some u→h'.get? b=some u)(hp:s.heap.objs.size≤a)(new:zbc X.prog X.w (upd H a o) h' a o):
  Inv X pins σ (upd H a o) { s with heap:=h',toks:=t' }:=I.un (Un.laid k hp (I.hok.fresh hp)) (I.hok.laid k hp new)
theorem Inv.write {x e:Addr}{o:HO}{t':Nat}(I:Inv X pins σ H s)(mu:Mut (H x))(he:e=x∨H e=some (.own x))(k:∀b u,b≠e→s.heap.get? b=some u→h'.get? b=some u)(heo:∃u,h'.get? e=some u)
  (new:zbc X.prog X.w (upd H x o) h' x o):Inv X pins σ (upd H x o) { s with heap:=h',toks:=t' }:=I.un (Un.write mu he k heo) (I.hok.write mu he k heo new)
theorem Inv.pins_of {pins':List (Addr×Obj)}(I:Inv X pins σ H s)(h:∀p∈pins',s.heap.get? p.1=some p.2∧H p.1=none∧p.1≠X.env.locals∧p.1 ∉ X.fs∧∀v,p.2.data≠.cell v):Inv X pins' σ H s:=
 ⟨I.ok,I.os,I.bare,I.base,I.loc,I.cell,I.free,I.freeC,λp hp=>(VaH.mp hp).elim (λz=>I.pin p (List.mem_append_left _ z)) (h p),I.hok,I.len⟩
theorem zlT {N:List Str}(hN:N.Nodup){i j:Nat}{x:Str}(a:N[i]?=some x)(b:N[j]?=some x):i=j:=by
 obtain⟨h1,e1⟩:=Vad.mp a
 obtain⟨h2,e2⟩:=Vad.mp b
 exact(List.getElem_inj hN).mp (e1.trans e2.symm)
theorem zlZ {M:Model}{A:Around}{E:Value→Shared→Prop}{i:Nat}{x:Str}{v:V}{u:Value}{Q:Unit→Shared→Prop}(I:Inv X pins σ H s)(hN:X.N.Nodup)(hi:X.N[i]?=some x)(hx:Loc X.env.scope x)(r:zax v u)
  (h:∀s',Inv X pins (σ.set i (some v)) H s'→(∃a,Heap.SameBut a s.heap s'.heap∧(a=X.env.locals∨X.env.cells.lookup x=some a))→Q () s')(hf:X.fn x=true∨X.env.scope.names.lookup x=some .local:=by first | exact .inl rfl | exact .inr rfl | assumption):wpAny M A (storeName X.env x u) Q E s:=by
 obtain⟨m,hn,hl⟩:=id I.loc
 have hcls:(X.env.scope.kind==.class||(X.env.scope.kind==.module&&X.env.locals != X.env.globals))=false:=by rw[I.ok.kind]; rfl
 have hiσ:i<σ.length:=by rw[I.len]; exact(Vad.mp hi).1
 have cne:=I.cne
 have tracked:∀ {a:Addr} {h':Heap},(∃o,s.heap.get? a=some o∧H a=none)→Heap.SameBut a s.heap h'→HOk X.prog X.w H h':=λ{a h'} ha hs b ob e=>by
  obtain⟨_,_,hfree⟩:=ha
  refine(I.hok b ob e).stay (λc w' hc q=>(hs.2 c ?_).trans q) (λ_ q=>q) λ_ _ q=>q
  rintro rfl
  rcases hc with rfl | hc
  ·rw[hfree] at e; cases e
  ·rw[hfree] at hc; cases hc
 rcases hx with hk | hk
 ·refine wpAny_storeName_local hk hn (λh' hn' hs=>?_) hcls
  obtain⟨oL,_,_,hoL,_⟩:=id hn
  refine h _ ⟨I.ok,I.os,I.bare,⟨λb o e n hb hx=>?_,λb o e n hb hx=>?_,I.base.free,λb o e hx=>?_,I.base.tups,I.base.frzs,I.base.tbls⟩,⟨_,hn',λj y v' e1 e2 e3=>?_⟩,λy c e=>?_,I.free,I.freeC,λp hp=>?_,tracked ⟨oL,hoL,I.free⟩ hs,by simpa using I.len⟩ ⟨_,hs,.inl rfl⟩
  ·exact(hs.2 b (Vaq (Vao (Heap.lt_size e) I.ok.above))).trans (I.base.keep b o e n hb hx)
  ·obtain⟨sl,e1⟩:=I.base.slot b o e n hb hx
   exact⟨sl,(hs.2 b (Vaq (Vao (Heap.lt_size e) I.ok.above))).trans e1⟩
  ·obtain⟨o',e1⟩:=I.base.there b o e hx
   exact⟨o',(hs.2 b (Vaq (Vao (Heap.lt_size e) I.ok.above))).trans e1⟩
  ·by_cases hj:j=i
   ·subst hj
    rw[hi] at e1; cases e1
    rw[VaO hiσ] at e2
    cases e2
    exact⟨u,r,.inl ⟨hk,by simp⟩⟩
   ·rw[VaI (Ne.symm hj)] at e2
    obtain⟨u',r',q⟩:=hl j y v' e1 e2 e3
    refine⟨u',r',?_⟩
    rcases q with ⟨k,e⟩ | ⟨k,c,e,z⟩
    ·refine .inl ⟨k,?_⟩
     have:y≠x:=λe=>hj (zlT hN e1 (e ▸ hi))
     simp[this,e]
    ·exact .inr ⟨k,c,e,z.sameBut hs (cne y c e)⟩
  ·obtain⟨w',z⟩:=I.cell y c e
   exact⟨w',z.sameBut hs (cne y c e)⟩
  ·obtain⟨e,n,ne,nf,d⟩:=I.pin p hp
   exact⟨(hs.2 p.1 ne).trans e,n,ne,nf,d⟩
 ·have hfn:X.fn x=true:=by
   rcases hf with z | z
   ·exact z
   ·rw[z] at hk; cases hk
  obtain⟨c,hc⟩:=I.ok.has x (.inl hk)
  obtain⟨w',z⟩:=I.cell x c hc
  refine wpAny_storeName_cell I.ok.kind hk hc z (λh' hc' hs=>?_)
  obtain⟨oc,hoc,hocd⟩:=id z
  refine h { s with heap:=h' } ⟨I.ok,I.os,I.bare,⟨λb o e n hb hx=>?_,λb o e n hb hx=>?_,I.base.free,λb o e hx=>?_,I.base.tups,I.base.frzs,I.base.tbls⟩,⟨m,hn.sameBut hs (Ne.symm (cne x c hc)),λj y v' e1 e2 e3=>?_⟩,λy c' e=>?_,I.free,I.freeC,λp hp=>?_,tracked ⟨oc,hoc,I.freeC x c hc⟩ hs,by simpa using I.len⟩ ⟨c,hs,.inr hc⟩
  ·exact(hs.2 b (Vaq (Vao (Heap.lt_size e) (I.ok.cab x c hfn hc)))).trans (I.base.keep b o e n hb hx)
  ·obtain⟨sl,e1⟩:=I.base.slot b o e n hb hx
   exact⟨sl,(hs.2 b (Vaq (Vao (Heap.lt_size e) (I.ok.cab x c hfn hc)))).trans e1⟩
  ·obtain⟨o',e1⟩:=I.base.there b o e hx
   exact⟨o',(hs.2 b (Vaq (Vao (Heap.lt_size e) (I.ok.cab x c hfn hc)))).trans e1⟩
  ·by_cases hj:j=i
   ·subst hj
    rw[hi] at e1; cases e1
    rw[VaO hiσ] at e2
    cases e2
    exact⟨u,r,.inr ⟨.inl hk,c,hc,hc'⟩⟩
   ·rw[VaI (Ne.symm hj)] at e2
    obtain⟨u',r',q⟩:=hl j y v' e1 e2 e3
    refine⟨u',r',?_⟩
    rcases q with q | ⟨k,c',e,z'⟩
    ·exact .inl q
    ·refine .inr ⟨k,c',e,z'.sameBut hs ?_⟩
     rintro rfl
     exact hj (zlT hN e1 (I.ok.inj _ _ _ e hc ▸ hi))
  ·by_cases hcc:c'=c
   ·subst hcc; exact⟨_,hc'⟩
   ·obtain⟨w2,z2⟩:=I.cell y c' e
    exact⟨w2,z2.sameBut hs hcc⟩
  ·obtain⟨e,n,ne,nf,d⟩:=I.pin p hp
   refine⟨(hs.2 p.1 ?_).trans e,n,ne,nf,d⟩
   intro q
   rw[q,hoc] at e
   have q':oc=p.2:=Option.some.inj e
   exact d w' (by rw[← q']; exact hocd)
theorem znv {M:Model}{A:Around}{E:Value→Shared→Prop}{i:Nat}{x:Str}{v:V}{u:Value}{Q:Unit→Shared→Prop}(I:Inv X pins σ H s)(hN:X.N.Nodup)(hi:X.N[i]?=some x)(hx:Loc X.env.scope x)(r:zax v u)
  (h:∀s',Inv X pins (σ.set i (some v)) H s'→Q () s')(hf:X.fn x=true∨X.env.scope.names.lookup x=some .local:=by first | exact .inl rfl | exact .inr rfl | assumption):wpAny M A (storeName X.env x u) Q E s:=
 zlZ I hN hi hx r (λs' I' _=>h s' I') hf
theorem Inv.call' {s':Shared}{ch:List Addr}(I:Inv X pins σ H s)(ho:s'.os=s.os)(u:Un (frs X.stack) ch H H' s.heap s'.heap)(hok:HOk X.prog X.w H' s'.heap)(hg:AllBare s'.gens)
  (hch:∀b∈ch,(b∈X.ex∨X.s₀.heap.objs.size≤b)∧b≠X.env.locals∧(∀x c,X.env.cells.lookup x=some c→c≠b)∧∀p∈X.pn++pins,p.1≠b):Inv X pins σ H' s':=by
 obtain⟨h',g',d',t',o'⟩:=s'
 have e:o'=s.os:=ho
 subst e
 exact I.call (g':=g') (t':=t') (d':=d') u hok hg hch
end
abbrev XK:=Value→Option Addr→Hp→Prop
abbrev St:=List (Option V)
abbrev VK:=V→Hp→Prop
abbrev TE:=St→Hp→VK→Prop
abbrev TT:=St→Hp→(Bool→Hp→Prop)→Prop
abbrev TA:=St→Hp→(List V→Hp→Prop)→Prop
structure zcH where
 nx:St→Hp→Prop
 rt:VK
 bk:St→Hp→Prop:=λ_ _=>False
 ct:St→Hp→Prop:=λ_ _=>False
abbrev TS:=zcH→St→Hp→Prop
def EP (X:Cx)(pins:List (Addr×Obj))(σ:St)(Q:VK)(u:Value)(s':Shared):Prop:=∃v H',Inv X pins σ H' s'∧zax v u∧Q v H'
def TP (X:Cx)(pins:List (Addr×Obj))(σ:St)(Q:Bool→Hp→Prop)(b:Bool)(s':Shared):Prop:=∃H',Inv X pins σ H' s'∧Q b H'
def AP (X:Cx)(pins:List (Addr×Obj))(σ:St)(Q:List V→Hp→Prop)(us:List Value)(s':Shared):Prop:=∃vs H',Inv X pins σ H' s'∧zaw vs us∧Q vs H'
def SP (X:Cx)(pins:List (Addr×Obj))(D:zcH)(f:Flow)(s':Shared):Prop:=
 match f with
 | .next=>∃σ' H',Inv X pins σ' H' s'∧D.nx σ' H'
 | .brk=>∃σ' H',Inv X pins σ' H' s'∧D.bk σ' H'
 | .cont=>∃σ' H',Inv X pins σ' H' s'∧D.ct σ' H'
 | .ret u=>∃v σ' H',Inv X pins σ' H' s'∧zax v u∧D.rt v H'
def PE (X:Cx)(e:Expr)(t:TE):Prop:=
 ∀(pins:List (Addr×Obj)) (s:Shared) (σ:St) (H:Hp) (Q:VK),Inv X pins σ H s→t σ H Q→wpAny (model X.prog X.w) X.A (eval e X.env) (EP X pins σ Q) X.xe s
def PT (X:Cx)(e:Expr)(t:TT):Prop:=
 ∀(pins:List (Addr×Obj)) (s:Shared) (σ:St) (H:Hp) (Q:Bool→Hp→Prop),Inv X pins σ H s→t σ H Q→wpAny (model X.prog X.w) X.A (isTrue e X.env (eval e X.env)) (TP X pins σ Q) X.xe s
def PW (X:Cx)(e:Expr)(t:TT):Prop:=
 ∀(whole:Sem Value) (pins:List (Addr×Obj)) (s:Shared) (σ:St) (H:Hp) (Q:Bool→Hp→Prop),Inv X pins σ H s→t σ H Q→wpAny (model X.prog X.w) X.A (isTrue e X.env whole) (TP X pins σ Q) X.xe s
theorem PW.pt {X:Cx}{e:Expr}{t:TT}(h:PW X e t):PT X e t:=h _
def PA (X:Cx)(es:List Expr)(t:TA):Prop:=
 ∀(pos:Pos) (pins:List (Addr×Obj)) (s:Shared) (σ:St) (H:Hp) (Q:List V→Hp→Prop),Inv X pins σ H s→t σ H Q→wpAny (model X.prog X.w) X.A (spliced (backTo pos (starEach es X.env))) (AP X pins σ Q) X.xe s
def PS (X:Cx)(st:Stmt)(t:TS):Prop:=
 ∀(pins:List (Addr×Obj)) (s:Shared) (σ:St) (H:Hp) (D:zcH),Inv X pins σ H s→t D σ H→wpAny (model X.prog X.w) X.A (exec st X.env) (SP X pins D) X.xe s
def PSs (X:Cx)(st:List Stmt)(t:TS):Prop:=
 ∀(pins:List (Addr×Obj)) (s:Shared) (σ:St) (H:Hp) (D:zcH),Inv X pins σ H s→t D σ H→wpAny (model X.prog X.w) X.A (execs st X.env) (SP X pins D) X.xe s
theorem thn {α:Type}{t:Sem α}{Q Q':α→Shared→Prop}{M:Model}{A:Around}{E:Value→Shared→Prop}{s:Shared}(h:wpAny M A t Q E s)(hQ:∀a s,Q a s→Q' a s):wpAny M A t Q' E s:=wpAny_mono h hQ λ_ _ x=>x
end L2
namespace L2
open PySem PySem.Spec PyProof.Rows
section
variable {X:Cx}
def tVar (i:Nat):TE:=λσ H Q=>∃v,σ[i]?=some (some v)∧Q v H
def tC (v:V):TE:=λ_ H Q=>Q v H
theorem zmG {i:Nat}{x:Str}{pos:Pos}(hN:X.N[i]?=some x)(hv:Vis X.env.scope x)(hd:(x==("__debug__":Str))=false:=by decide)(hcd:(x==("__classdict__":Str))=false:=by decide):PE X (.Name x pos) (tVar i):=by
 intro pins s σ H Q I h
 obtain⟨v,e,h⟩:=h
 obtain⟨m,hn,hl⟩:=I.loc
 obtain⟨u,r,l⟩:=hl i x v hN e hv
 have fin:EP X pins σ Q u s:=⟨v,H,I,r,h⟩
 rcases l with ⟨hk,hm⟩ | ⟨hk,c,hc,hcell⟩
 ·exact wpAny_Name (wpAny_loadName_local I.ok.kind hk hn hm fin) hd
 ·rcases hk with hk | hk
  ·exact wpAny_Name (wpAny_loadName_cell I.ok.kind hk hc hcell fin) hd
  ·exact wpAny_Name (wpAny_loadName_free I.ok.kind hk hc hcell fin hcd) hd
theorem zoT {i j pos}:PE X (.Constant (.int i) j pos) (tC (.int i)):=λ_ _ _ H _ I h=>wpAny_Constant_int ⟨.int i,H,I.tok _,⟨_,rfl⟩,h⟩
theorem pe_bl {b j pos}:PE X (.Constant (.bool b) j pos) (tC (.bl b)):=λ_ _ _ H _ I h=>Constant_bool ⟨.bl b,H,I,rfl,h⟩
theorem znL {j pos}:PE X (.Constant .none j pos) (tC .non):=λ_ _ _ H _ I h=>Constant_none ⟨.non,H,I,rfl,h⟩
theorem zqJ {x j pos}:PE X (.Constant (.str x) j pos) (tC (.str x)):=λ_ _ _ H _ I h=>Calls.Constant_str ⟨.str x,H,I.tok _,⟨_,rfl⟩,h⟩
def Gl (X:Cx)(x:Str):Prop:=X.env.kindOf x=some .globalImplicit
theorem zmI {E:Value→Shared→Prop}{pins:List (Addr×Obj)}{s:Shared}{σ:St}{H:Hp}{x:Str}{u:Value}{pos:Pos}{Q:Value→Shared→Prop}(I:Inv X pins σ H s)(hg:Gl X x)(hm:X.mg x=some u)(h:Q u s)
  (hd:(x==("__debug__":Str))=false:=by decide):wpAny (model X.prog X.w) X.A (eval (.Name x pos) X.env) Q E s:=
 Calls.Name_function_global I.ok.kind hg (Calls.loadGlobal_global (by rw[I.ok.glob]; exact I.mod.glob.keeps I.bk) hm h) hd
theorem zjP {E:Value→Shared→Prop}{pins:List (Addr×Obj)}{s:Shared}{σ:St}{H:Hp}{x:Str}{u:Value}{pos:Pos}{Q:Value→Shared→Prop}(I:Inv X pins σ H s)(hg:Gl X x)(hm:X.mg x=none)(hv:bootBuiltins x=some u)(h:Q u s)
  (hn:x≠"__name__":=by decide)(hd:(x==("__debug__":Str))=false:=by decide):wpAny (model X.prog X.w) X.A (eval (.Name x pos) X.env) Q E s:=by
 obtain⟨mb,h1,h2⟩:=I.mod.blt
 exact Calls.Name_function_global I.ok.kind hg (Calls.loadGlobal_builtin (by rw[I.ok.glob]; exact I.mod.glob.keeps I.bk) hm (by rw[I.ok.blt]; exact h1.keeps I.bk) ((h2 x hn).trans hv) h) hd
theorem znx {x:Str}{v:V}{u:Value}{pos:Pos}(hg:Gl X x)(hm:X.mg x=none)(hv:bootBuiltins x=some u)(r:zax v u)(hn:x≠"__name__":=by decide)(hd:(x==("__debug__":Str))=false:=by decide):PE X (.Name x pos) (tC v):=
 λ_ _ _ H _ I h=>zjP I hg hm hv ⟨v,H,I,r,h⟩ hn hd
variable {a b:Expr}{ta tb:TE}{pos:Pos}
def tB (t:TE):TT:=λσ H Q=>t σ H λx H1=>∃c,x=.bl c∧Q c H1
theorem zsf {e:Expr}{t:TE}(h:PE X e t)(he:∀whole,isTrue e X.env whole=(do let v ← whole; standAt e.pos; holding [v] (truthy v)):=by intro _; rfl):PT X e (tB t):=by
 intro pins s σ H Q I hw
 refine isTrue_plain (thn (h pins s σ H _ I hw) λv s1 ⟨x,H1,I1,r1,q1⟩=>?_) (he _)
 obtain⟨d,rfl,q⟩:=q1
 cases r1
 exact wpAny_truthy_bool ⟨H1,I1,q⟩
variable {tA tB':TT}{zba:List Expr}
def tAnd (t u:TT):TT:=λσ H Q=>t σ H λc H1=>if c=true then u σ H1 Q else Q false H1
def tOr (t u:TT):TT:=λσ H Q=>t σ H λc H1=>if c=true then Q true H1 else u σ H1 Q
def tNot (t:TT):TT:=λσ H Q=>t σ H λc H1=>Q (!c) H1
theorem zow (ha:PT X a tA):PW X (.BoolOp .And [a] pos) tA:=by
 intro wh pins s σ H Q I h
 refine isTrue_and (thn (ha pins s σ H Q I h) λc s1 e=>?_)
 cases c with
 | true=>exact isTrue_and_nil e
 | false=>exact e
theorem zsM (ha:PT X a tA):PW X (.BoolOp .Or [a] pos) tA:=by
 intro wh pins s σ H Q I h
 refine isTrue_or (thn (ha pins s σ H Q I h) λc s1 e=>?_)
 cases c with
 | false=>exact isTrue_or_nil e
 | true=>exact e
theorem zru (ha:PT X a tA)(hb:PW X (.BoolOp .And (b::zba) pos) tB'):PW X (.BoolOp .And (a::b::zba) pos) (tAnd tA tB'):=by
 intro wh pins s σ H Q I h
 refine isTrue_and (thn (ha pins s σ H _ I h) λc s1 ⟨H1,I1,q1⟩=>?_)
 cases c with
 | true=>exact hb wh pins s1 σ H1 Q I1 q1
 | false=>exact⟨H1,I1,q1⟩
theorem pw_or (ha:PT X a tA)(hb:PW X (.BoolOp .Or (b::zba) pos) tB'):PW X (.BoolOp .Or (a::b::zba) pos) (tOr tA tB'):=by
 intro wh pins s σ H Q I h
 refine isTrue_or (thn (ha pins s σ H _ I h) λc s1 ⟨H1,I1,q1⟩=>?_)
 cases c with
 | true=>exact⟨H1,I1,q1⟩
 | false=>exact hb wh pins s1 σ H1 Q I1 q1
theorem zrZ (ha:PT X a tA):PT X (.UnaryOp .Not a pos) (tNot tA):=by
 intro pins s σ H Q I h
 exact isTrue_not (ha pins s σ H (λc H1=>Q (!c) H1) I h)
def tAndV (ta tb:TE):TE:=λσ H Q=>ta σ H λx H1=>∃c,x=.bl c∧if c=true then tb σ H1 Q else Q (.bl false) H1
def tNotV (ta:TE):TE:=λσ H Q=>ta σ H λx H1=>∃c,x=.bl c∧Q (.bl (!c)) H1
theorem zq5 {op}{t:TE}(h:PE X a t):PE X (.BoolOp op [a] pos) t:=λpins s σ H Q I hw=>BoolOp_one (h pins s σ H Q I hw)
theorem zoo (ha:PE X a ta)(hb:PE X (.BoolOp .And (b::zba) pos) tb):PE X (.BoolOp .And (a::b::zba) pos) (tAndV ta tb):=by
 intro pins s σ H Q I h
 refine BoolOp_and (thn (ha pins s σ H _ I h) λv s1 ⟨x,H1,I1,r1,q1⟩=>?_)
 obtain⟨c,rfl,q1⟩:=q1
 cases r1
 refine wpAny_truthy_bool ?_
 cases c with
 | true=>exact hb pins s1 σ H1 Q I1 q1
 | false=>exact⟨.bl false,H1,I1,rfl,q1⟩
theorem zpc (ha:PE X a ta):PE X (.UnaryOp .Not a pos) (tNotV ta):=by
 intro pins s σ H Q I h
 refine UnaryOp_ (thn (ha pins s σ H _ I h) λv s1 ⟨x,H1,I1,r1,q1⟩=>?_)
 obtain⟨c,rfl,q1⟩:=q1
 cases r1
 exact not_of (wpAny_truthy_bool ⟨.bl (!c),H1,I1,rfl,q1⟩)
def tIf (t:TT)(ta tb:TE):TE:=λσ H Q=>t σ H λc H1=>if c=true then ta σ H1 Q else tb σ H1 Q
theorem zrY {c:Expr}(hc:PT X c tA)(ha:PE X a ta)(hb:PE X b tb):PE X (.IfExp c a b pos) (tIf tA ta tb):=by
 intro pins s σ H Q I h
 refine wpAny_IfExp (thn (hc pins s σ H _ I h) λd s1 ⟨H1,I1,q1⟩=>?_)
 cases d with
 | true=>exact ha pins s1 σ H1 Q I1 q1
 | false=>exact hb pins s1 σ H1 Q I1 q1
end
end L2
namespace L2
open PySem PySem.Spec PyProof.Rows
def SqL (K:PySem.W.Frag)(H:Hp)(a:Addr)(xs:List V):Prop:=
 Rd H a (.lst xs)∨
  ∃(o:Obj) (its:Array Value) (n:Nat),K.lookup a=some o∧o.cls=.type "list"∧o.dict=none∧o.data=.seq its n∧its.size≤sizeLine∧zaw xs its.toList
def SqT (K:PySem.W.Frag)(H:Hp)(a:Addr)(xs:List V):Prop:=
 Rd H a (.tup xs)∨
  ∃(o:Obj) (its:Array Value) (n:Nat),K.lookup a=some o∧o.cls=.type "tuple"∧o.data=.seq its n∧its.size≤sizeLine∧zaw xs its.toList
def absV:Value→Option V
 | .none=>some .non
 | .bool b=>some (.bl b)
 | .int i _=>some (.int i)
 | .str x _=>some (.str x)
 | .bytes b _=>some (.byt b)
 | .float b _=>some (.flt b)
 | .ref a=>some (.ref a)
 | .type n=>some (.ty n)
 | _=>none
theorem zax.abs {x:V}{u:Value}(r:zax x u):absV u=some x:=by
 cases x with
 | non=>cases r; rfl
 | bl _=>cases r; rfl
 | int _=>obtain⟨t,rfl⟩:=r; rfl
 | str _=>obtain⟨t,rfl⟩:=r; rfl
 | byt _=>obtain⟨t,rfl⟩:=r; rfl
 | flt _=>obtain⟨t,rfl⟩:=r; rfl
 | ref _=>cases r; rfl
 | ty _=>cases r; rfl
theorem zax.inj {x y:V}{u:Value}(r:zax x u)(q:zax y u):x=y:=Option.some.inj (r.abs.symm.trans q.abs)
theorem zaw.inj:∀ {xs ys:List V} {us:List Value},zaw xs us→zaw ys us→xs=ys
 | _,_,_,.nil,.nil=>rfl
 | _,_,_,.cons r t,.cons r' t'=>by rw[r.inj r',zaw.inj t t']
section
variable {X:Cx}{pins:List (Addr×Obj)}{σ:St}{H:Hp}{s:Shared}{a:Addr}{xs ys:List V}
theorem SqL.of {K:PySem.W.Frag}(h:H a=some (.lst xs)):SqL K H a xs:=.inl (.inl h)
theorem SqT.of {K:PySem.W.Frag}(h:H a=some (.tup xs)):SqT K H a xs:=.inl (.inl h)
theorem Inv.list (I:Inv X pins σ H s)(h:SqL X.K H a xs):∃its:List Value,zaw xs its∧PlainL s.heap a its.toArray∧xs.length≤sizeLine:=by
 rcases h with h | ⟨o,its,n,hk,hc,hd,hs,hz,r⟩
 ·obtain⟨z,its,n,r,e⟩:=h.ok I.hok
  exact⟨its,r,⟨_,n,e,rfl,rfl,rfl⟩,z⟩
 ·refine⟨its.toList,r,⟨o,n,I.kIn a o hk,hc,hd,by simpa using hs⟩,?_⟩
  have e:=r.length
  simp only[Array.length_toList] at e
  omega
theorem Inv.tuple (I:Inv X pins σ H s)(h:SqT X.K H a xs):∃its:List Value,zaw xs its∧IsTup s.heap a its.toArray∧xs.length≤sizeLine:=by
 rcases h with h | ⟨o,its,n,hk,hc,hs,hz,r⟩
 ·obtain⟨z,its,r,p⟩:=h.ok I.hok
  exact⟨its,r,p,z⟩
 ·refine⟨its.toList,r,⟨o,I.kIn a o hk,hc,n,by simpa using hs⟩,?_⟩
  have e:=r.length
  simp only[Array.length_toList] at e
  omega
theorem Inv.list_inj (I:Inv X pins σ H s)(h:SqL X.K H a xs)(h':SqL X.K H a ys):xs=ys:=by
 obtain⟨its,r,⟨o,n,e,_,_,d⟩,_⟩:=I.list h
 obtain⟨its',r',⟨o',n',e',_,_,d'⟩,_⟩:=I.list h'
 rw[e] at e'; cases e'
 rw[d] at d'
 injection d' with d1 _
 have:its=its':=by simpa using congrArg Array.toList d1
 subst this
 exact r.inj r'
end
abbrev Cx.wish (X:Cx)(E:Value→Shared→Prop):Cx:={ X with xe:=E }
abbrev Cx.nox (X:Cx):Cx:=X.wish λ_ _=>False
theorem Cx.Ok.wish {X:Cx}(ok:X.Ok)(E:Value→Shared→Prop):(X.wish E).Ok:=
 ⟨ok.mod,ok.kind,ok.glob,ok.blt,ok.above,ok.inj,ok.has,ok.cab,ok.hd,ok.frames,ok.stk,ok.exf,ok.bs,ok.bsz,ok.noex,ok.exfs,ok.funs,ok.frf⟩
theorem Cx.Ok.unwish {X:Cx}{E:Value→Shared→Prop}(ok:(X.wish E).Ok):X.Ok:=
 ⟨ok.mod,ok.kind,ok.glob,ok.blt,ok.above,ok.inj,ok.has,ok.cab,ok.hd,ok.frames,ok.stk,ok.exf,ok.bs,ok.bsz,ok.noex,ok.exfs,ok.funs,ok.frf⟩
section
variable {X:Cx}{pins:List (Addr×Obj)}{σ:St}{H:Hp}{s:Shared}{E:Value→Shared→Prop}
theorem Inv.wish (I:Inv X pins σ H s)(E:Value→Shared→Prop):Inv (X.wish E) pins σ H s:=⟨I.ok.wish E,I.os,I.bare,I.base,I.loc,I.cell,I.free,I.freeC,I.pin,I.hok,I.len⟩
theorem Inv.unwish (I:Inv (X.wish E) pins σ H s):Inv X pins σ H s:=⟨I.ok.unwish,I.os,I.bare,I.base,I.loc,I.cell,I.free,I.freeC,I.pin,I.hok,I.len⟩
theorem SP.unwish {D:zcH}{f:Flow}{s':Shared}(h:SP (X.wish E) pins D f s'):SP X pins D f s':=by
 cases f with
 | next=>obtain⟨σ',H',I,q⟩:=h; exact⟨σ',H',I.unwish,q⟩
 | brk=>obtain⟨σ',H',I,q⟩:=h; exact⟨σ',H',I.unwish,q⟩
 | cont=>obtain⟨σ',H',I,q⟩:=h; exact⟨σ',H',I.unwish,q⟩
 | ret u=>obtain⟨v,σ',H',I,r,q⟩:=h; exact⟨v,σ',H',I.unwish,r,q⟩
theorem PE.nox {e:Expr}{t:TE}(h:PE X.nox e t):PE X e t:=λpins s σ H Q I hw=>
 wpAny_mono (h pins s σ H Q (I.wish _) hw) (λ_ _ ⟨v,H',I',r,q⟩=>⟨v,H',I'.unwish,r,q⟩) λ_ _ z=>False.elim z
theorem PT.nox {e:Expr}{t:TT}(h:PT X.nox e t):PT X e t:=λpins s σ H Q I hw=>
 wpAny_mono (h pins s σ H Q (I.wish _) hw) (λ_ _ ⟨H',I',q⟩=>⟨H',I'.unwish,q⟩) λ_ _ z=>False.elim z
theorem PSs.nox {st:List Stmt}{t:TS}(h:PSs X.nox st t):PSs X st t:=λpins s σ H D I hw=>
 wpAny_mono (h pins s σ H D (I.wish _) hw) (λ_ _ q=>q.unwish) λ_ _ z=>False.elim z
end
section
variable {X:Cx}{st:Stmt}{zba:List Stmt}{t u:TS}{e:Expr}{te:TE}{pos:Pos}
def tNext:TS:=λD σ H=>D.nx σ H
def tSeq (t u:TS):TS:=λD σ H=>t { D with nx:=u D } σ H
theorem zr8:PSs X [] tNext:=λ_ _ σ H _ I h=>wpAny_execs_nil ⟨σ,H,I,h⟩
theorem zqv (h1:PS X st t)(h2:PSs X zba u):PSs X (st::zba) (tSeq t u):=by
 intro pins s σ H D I h
 refine wpAny_execs_cons (thn (h1 pins s σ H { D with nx:=u D } I h) λf s1 q=>?_)
 cases f with
 | next=>
  obtain⟨σ',H',I',q⟩:=q
  exact h2 pins s1 σ' H' D I' q
 | ret v=>exact q
 | brk=>exact q
 | cont=>exact q
theorem zsY (h1:PS X st t):PSs X [st] t:=by
 intro pins s σ H D I h
 refine wpAny_execs_cons (thn (h1 pins s σ H D I h) λf s1 q=>?_)
 cases f with
 | next=>exact wpAny_execs_nil q
 | ret v=>exact q
 | brk=>exact q
 | cont=>exact q
theorem Inv.quiet {pins:List (Addr×Obj)}{σ:St}{H:Hp}{s:Shared}(I:Inv X pins σ H s):interactive X.env=false:=by simp[interactive,I.ok.kind]
def tDrop (te:TE):TS:=λD σ H=>te σ H λ_ H1=>D.nx σ H1
theorem zqu (he:PE X e te)(hs:swapsWith e none pos.line X.env=pure false:=by rfl):PS X (.Expr e pos) (tDrop te):=by
 intro pins s σ H D I h
 exact wpAny_Expr_any (thn (he pins s σ H _ I h) λv s1 ⟨x,H1,I1,r1,q1⟩=>⟨σ,H1,I1,q1⟩) I.quiet hs
def tRet (te:TE):TS:=λD σ H=>te σ H D.rt
theorem zoi (he:PE X e te):PS X (.Return (some e) pos) (tRet te):=by
 intro pins s σ H D I h
 exact wpAny_Return_some (thn (he pins s σ H _ I h) λv s1 ⟨x,H1,I1,r1,q1⟩=>⟨x,σ,H1,I1,r1,q1⟩)
def tIfS (c:TT)(t u:TS):TS:=λD σ H=>c σ H λb H1=>if b=true then t D σ H1 else u D σ H1
theorem ps_if {c:Expr}{a b:List Stmt}{tc:TT}(hc:PT X c tc)(ha:PSs X a t)(hb:PSs X b u):PS X (.If c a b pos) (tIfS tc t u):=by
 intro pins s σ H D I h
 refine wpAny_If (thn (hc pins s σ H _ I h) λd s1 ⟨H1,I1,q1⟩=>?_)
 cases d with
 | true=>exact ha pins s1 σ H1 D I1 q1
 | false=>exact hb pins s1 σ H1 D I1 q1
end
abbrev TG:=V→St→Hp→(St→Hp→Prop)→Prop
def PG (X:Cx)(target:Expr)(t:TG):Prop:=
 ∀(pins:List (Addr×Obj)) (s:Shared) (σ:St) (H:Hp) (v:V) (u:Value) (Q:St→Hp→Prop),Inv X pins σ H s→zax v u→t v σ H Q→
  wpAny (model X.prog X.w) X.A (assign target X.env u) (λ_ s'=>∃σ' H',Inv X pins σ' H' s'∧Q σ' H') X.xe s
abbrev TSet:=V→V→V→Hp→(Hp→Prop)→Prop
def PSet (X:Cx)(t:TSet):Prop:=
 ∀(pins:List (Addr×Obj)) (s:Shared) (σ:St) (H:Hp) (o i v:V) (ov iv u:Value) (Q:Hp→Prop),Inv X pins σ H s→zax o ov→zax i iv→zax v u→t o i v H Q→
  wpAny (model X.prog X.w) X.A (setItem ov iv u) (λ_ s'=>∃H',Inv X pins σ H' s'∧Q H') X.xe s
section
variable {X:Cx}{pos:Pos}
def zmr (i:Nat):TG:=λv σ H Q=>Q (σ.set i (some v)) H
theorem zll {i:Nat}{x:Str}(hN:X.N.Nodup)(hi:X.N[i]?=some x)(hx:Loc X.env.scope x)(hf:X.fn x=true∨X.env.scope.names.lookup x=some .local:=by first | exact .inl rfl | exact .inr rfl | assumption):PG X (.Name x pos) (zmr i):=by
 intro pins s σ H v u Q I r h
 exact wpAny_assign_Name (znv I hN hi hx r (λs' I'=>⟨_,H,I',h⟩) hf)
def gSub (to ti:TE)(t:TSet):TG:=λv σ H Q=>to σ H λo H1=>ti σ H1 λi H2=>t o i v H2 λH3=>Q σ H3
theorem zr7 {o i:Expr}{to ti:TE}{t:TSet}(ho:PE X o to)(hi:PE X i ti)(hs:PSet X t)
  (ha:∀v,assign (.Subscript o i pos) X.env v=(do
   let ov ← holding [v] (eval o X.env)
   let iv ← holding [v,ov] (eval i X.env)
   standAt pos
   holding [v,ov,iv] (setItem ov iv v)
   release [v,ov,iv] []):=by intro _; rfl):PG X (.Subscript o i pos) (gSub to ti t):=by
 intro pins s σ H v u Q I r h
 rw[ha]
 refine wpAny_bind (wpAny_holding (thn (ho pins s σ H _ I h) λov s1 ⟨x,H1,I1,r1,q1⟩=>?_))
 refine wpAny_bind (wpAny_holding (thn (hi pins s1 σ H1 _ I1 q1) λiv s2 ⟨y,H2,I2,r2,q2⟩=>?_))
 refine wpAny_bind (wpAny_standAt (wpAny_bind (wpAny_holding (thn (hs pins s2 σ H2 x y v ov iv u _ I2 r1 r2 r q2) λ_ s3 ⟨H3,I3,q3⟩=>?_))))
 exact wpAny_release ⟨σ,H3,I3,q3⟩
def tAsg (te:TE)(g:TG):TS:=λD σ H=>te σ H λx H1=>g x σ H1 D.nx
theorem znW {tg e:Expr}{te:TE}{g:TG}(he:PE X e te)(hg:PG X tg g)(hs:swapsWithSole [tg] e pos.line X.env=pure false:=by rfl)(hw:swappedStores [tg] e X.env=pure none:=by rfl)
  (h1:(assignEach [tg] X.env).map (·.2)=[assign tg X.env]:=by rfl):PS X (.Assign [tg] e pos) (tAsg te g):=by
 intro pins s σ H D I h
 refine wpAny_Assign_stores (thn (he pins s σ H _ I h) λv s1 ⟨x,H1,I1,r1,q1⟩=>?_) hs hw
 rw[h1]
 exact thn (hg pins s1 σ H1 x v _ I1 r1 q1) λ_ s2 q=>q
theorem zrK {i:Nat}{x:Str}{e:Expr}{te:TE}{pos':Pos}(hN:X.N.Nodup)(hi:X.N[i]?=some x)(hx:Loc X.env.scope x)(he:PE X e te)(hs:swapsWith e (some (.Name x pos')) pos.line X.env=pure false:=by rfl)(hf:X.fn x=true∨X.env.scope.names.lookup x=some .local:=by first | exact .inl rfl | exact .inr rfl | assumption):
  PS X (.Assign [.Name x pos'] e pos) (tAsg te (zmr i)):=by
 intro pins s σ H D I h
 refine wpAny_Assign_Name (thn (he pins s σ H _ I h) λv s1 ⟨y,H1,I1,r1,q1⟩=>?_) hs
 exact znv I1 hN hi hx r1 (λs2 I2=>⟨_,H1,I2,q1⟩) hf
end
section
variable {X:Cx}{pos:Pos}
def zrJ (c:TT)(tb:TS):TS:=λD σ H=>∃W:Nat→St→Hp→Prop,(∃m,W m σ H)∧∀m σ H,W m σ H→
 c σ H λb H1=>if b=true then ∃N:St→Hp→Prop,(∀σ' H',N σ' H'→∃m',m'<m∧W m' σ' H')∧tb { D with nx:=N,ct:=N,bk:=D.nx } σ H1 else D.nx σ H1
theorem zos {c:Expr}{body:List Stmt}{tc:TT}{tb:TS}(hp:PassesOwn (model X.prog X.w) X.A X.env X.xe)(hc:PT X c tc)(hb:PSs X body tb):PS X (.While c body [] pos) (zrJ tc tb):=by
 intro pins s σ H D I h
 obtain⟨W,⟨m0,w0⟩,turn⟩:=h
 refine wpAny_While (codeAny_whileLoop (λn s'=>∃σ' H',Inv X pins σ' H' s'∧W n σ' H') ?_ m0 ⟨σ,H,I,w0⟩)
 rintro n s1 ⟨σ1,H1,I1,w1⟩
 refine wpAny_passesOwn hp (thn (hc pins s1 σ1 H1 _ I1 (turn n σ1 H1 w1)) λb s2 ⟨H2,I2,q2⟩=>?_)
 cases b with
 | true=>
  obtain⟨N,hN,q2⟩:=q2
  rw[if_pos rfl]
  refine wpAny_passesOwn hp (thn (hb pins s2 σ1 H2 _ I2 q2) λf s3 q3=>?_)
  cases f with
  | next=>
   obtain⟨σ3,H3,I3,n3⟩:=q3
   obtain⟨m',hm,w3⟩:=hN σ3 H3 n3
   exact⟨m',hm,σ3,H3,I3,w3⟩
  | cont=>
   obtain⟨σ3,H3,I3,n3⟩:=q3
   obtain⟨m',hm,w3⟩:=hN σ3 H3 n3
   exact⟨m',hm,σ3,H3,I3,w3⟩
  | brk=>exact q3
  | ret v=>exact q3
 | false=>
  rw[if_neg Vaj]
  exact wpAny_execs_nil ⟨σ1,H2,I2,q2⟩
end
structure It where
 go:Nat→Hp→Prop
 yld:Nat→Hp→V→Hp→Prop
 stop:Nat→Hp→Prop
def zcN (X:Cx)(pins:List (Addr×Obj))(H:Hp)(b:Addr):Prop:=
 H b=none∧b≠X.env.locals∧b ∉ X.fs∧(b∈X.ex∨X.s₀.heap.objs.size≤b)∧(∀x c,X.env.cells.lookup x=some c→c≠b)∧∀p∈X.pn++pins,p.1≠b
theorem Inv.fpOk {X:Cx}{pins:List (Addr×Obj)}{σ:St}{H H':Hp}{s:Shared}{b:Addr}(I:Inv X pins σ H s)(hb:s.heap.objs.size≤b)(hn:H' b=none):zcN X pins H' b:=by
 refine⟨hn,Nat.ne_of_gt (Vao I.lt hb),I.nofs hb,.inr (Vas I.sz hb),λx c e z=>?_,λp hp z=>?_⟩
 ·obtain⟨v,q⟩:=I.cell x c e
  exact absurd (Vao q.lt (by rw[z]; exact hb)) (VaG _)
 ·exact absurd (Vao (Heap.lt_size (I.pin p hp).1) (by rw[z]; exact hb)) (VaG _)
structure Turn (P:Program)(w:World)(K:PySem.W.Frag)(tg:Expr)(J:It)(fp:List Addr)(it:Addr)(tn:Nat→Heap→Prop):Prop where
 mem:it∈fp
 obj:∀i h,tn i h→∀b∈fp,∃o,h.get? b=some o∧∀v,o.data≠.cell v
 keep:∀i h h',tn i h→(∀b∈fp,∀o,h.get? b=some o→h'.get? b=some o)→tn i h'
 item:∀(X:Cx),X.prog=P→X.w=w→X.K=K→X.calm=true→∀(i:Nat) (pins:List (Addr×Obj)) (s:Shared) (σ:St) (H:Hp) (E:Value→Shared→Prop),Inv X pins σ H s→(∀b∈fp,zcN X pins H b)→tn i s.heap→J.go i H→
  wpAny (model P w) X.A (pyNext (.ref it)) (λr s1=>∃u,r=some u∧
   wpAny (model P w) X.A (letOwnedTupleGo tg (.ref it) u) (λ_ s2=>∃x H',Inv X pins σ H' s2∧zax x u∧J.yld i H x H'∧tn (i+1) s2.heap∧∀b∈fp,H' b=none) E s1) E s
 done:∀(X:Cx),X.prog=P→X.w=w→X.K=K→X.calm=true→∀(i:Nat) (pins:List (Addr×Obj)) (s:Shared) (σ:St) (H:Hp) (E:Value→Shared→Prop),Inv X pins σ H s→(∀b∈fp,zcN X pins H b)→tn i s.heap→J.stop i H→
  wpAny (model P w) X.A (pyNext (.ref it)) (λr s1=>r=none∧Inv X pins σ H s1) E s
 self:∀(A:Around) (i:Nat) (s:Shared) (Q:Value→Shared→Prop) (E:Value→Shared→Prop),tn i s.heap→Q (.ref it) s→wpAny (model P w) A (pyIter (.ref it)) Q E s
abbrev TI:=St→Hp→(It→Hp→Prop)→Prop
def PIE (X:Cx)(pins:List (Addr×Obj))(σ:St)(tg:Expr)(R:It→Hp→Prop)(itv:Value)(s2:Shared):Prop:=
 ∃(it:Addr) (fp:List Addr) (tn:Nat→Heap→Prop) (J:It) (H':Hp),itv=.ref it∧Inv X pins σ H' s2∧Turn X.prog X.w X.K tg J fp it tn∧tn 0 s2.heap∧(∀b∈fp,zcN X pins H' b)∧R J H'
def PI (X:Cx)(tg iter:Expr)(wi:TI):Prop:=
 ∀(pins:List (Addr×Obj)) (s:Shared) (σ:St) (H:Hp) (R:It→Hp→Prop),Inv X pins σ H s→wi σ H R→
  wpAny (model X.prog X.w) X.A (eval iter X.env) (λv s1=>wpAny (model X.prog X.w) X.A (pyIter v) (PIE X pins σ tg R) X.xe s1) X.xe s
theorem znn {M:Model}{A:Around}{E:Value→Shared→Prop}{s:Shared}{tg:Expr}{it:Addr}{u:Value}{o:Obj}{n:String}{vs:Array Value}{Q:Unit→Shared→Prop}(ho:s.heap.get? it=some o)(hc:o.cls=.type n)(hd:o.data=.fields vs)
    (hn:["enumerate","zip","dict_itemiterator","dict_reverseitemiterator","odict_iterator","itertools.zip_longest","itertools.pairwise"].contains n=false)(hQ:Q () s):wpAny M A (letOwnedTupleGo tg (.ref it) u) Q E s:=by
  unfold letOwnedTupleGo
  cases tg <;> first
    | exact wpAny_pure hQ
    | (cases u <;> first
        | exact wpAny_pure hQ
        | (refine wpAny_bind (wpAny_load ho ?_)
           rw[hc,hd]
           show wpAny M A (if (["enumerate","zip","dict_itemiterator","dict_reverseitemiterator","odict_iterator","itertools.zip_longest","itertools.pairwise"].contains n&&vs[0]?==some (rawInt _))=true then _ else _) Q E s
           rw[if_neg (by intro h; rw[hn,Bool.false_and] at h; cases h)]
           exact wpAny_pure hQ))
def Itl (K:PySem.W.Frag)(a:Addr):It:=
 ⟨λi H=>∃xs x,SqL K H a xs∧xs[i]?=some x,λi H x H'=>H'=H∧∀xs,SqL K H a xs→xs[i]?=some x,λi H=>∃xs,SqL K H a xs∧xs.length≤i⟩
def Itr (lo:Int)(n:Nat):It:=⟨λi _=>i<n,λi H x H'=>H'=H∧x=.int (lo+i),λi _=>n≤i⟩
theorem zsW {P:Program}{w:World}{K:PySem.W.Frag}{tg:Expr}(a it:Addr):Turn P w K tg (Itl K a) [it] it (λi h=>h.IsListIter it a i) where
 mem:=by simp
 obj:=λi h st b hb=>by
  have e:b=it:=by simpa using hb
  subst e
  obtain⟨o,e,c,d⟩:=st
  exact⟨o,e,λv z=>by rw[d] at z; cases z⟩
 keep:=λi h h' st k=>st.at λo e=>k it (by simp) o e
 item:=by
  intro X hP hw hK hc i pins s σ H E I hf st hg
  subst hP hw hK
  obtain⟨xs,x,hq,hx⟩:=hg
  obtain⟨its,rv,p,hz⟩:=I.list hq
  obtain⟨u,hu,ru⟩:=rv.get hx
  obtain⟨f0,f1,f2,f3,f4,f5⟩:=hf it (by simp)
  refine wpAny_pyNext_list_item st p.isList (x:=u) (by simpa using hu) λh' st' sb=>?_
  have I1:Inv X pins σ H { s with heap:=h' }:=I.turned (t':=s.toks) (λb o hb e=>(sb.2 b hb).trans e) f0 f1 f3 f4 f5
  obtain⟨o,e,c,d⟩:=id st'
  exact⟨u,rfl,znn (s:={ s with heap:=h' }) e c d (by decide) ⟨x,H,I1,ru,⟨rfl,λys hy=>by rw[I.list_inj hy hq]; exact hx⟩,st',λb hb=>(hf b hb).1⟩⟩
 done:=by
  intro X hP hw hK hc i pins s σ H E I hf st hg
  subst hP hw hK
  obtain⟨xs,hq,hx⟩:=hg
  obtain⟨its,rv,p,hz⟩:=I.list hq
  obtain⟨f0,f1,f2,f3,f4,f5⟩:=hf it (by simp)
  have hl:=rv.length
  exact wpAny_pyNext_list_end (I.ok.hd hc) st p.isList (by simp; omega) λh' eb=>⟨rfl,I.turned (t':=s.toks) (λb o hb e=>eb b o hb e) f0 f1 f3 f4 f5⟩
 self:=λ_ _ _ _ _ st h=>wpAny_pyIter_listiter st h
theorem zqd {P:Program}{w:World}{K:PySem.W.Frag}{tg:Expr}(it:Addr)(lo:Int)(n:Nat):Turn P w K tg (Itr lo n) [it] it (λi h=>IsRangeIter h it (lo+(i:Nat)*1) ((n:Int)-(i:Nat)) 1) where
 mem:=by simp
 obj:=λi h st b hb=>by
  have e:b=it:=by simpa using hb
  subst e
  exact⟨_,st,λv z=>by
   have z':Data.fields _=Data.cell v:=z
   cases z'⟩
 keep:=λi h h' st k=>k it (by simp) _ st
 item:=by
  intro X hP hw hK hc i pins s σ H E I hf st hg
  subst hP hw hK
  obtain⟨f0,f1,f2,f3,f4,f5⟩:=hf it (by simp)
  have W:=Walks.range (prog:=X.prog) (w:=X.w) (I.ok.hd hc) it lo 1 n
  refine W.item i s _ _ hg st λv h' tk hv st' kk=>?_
  obtain⟨t,rfl⟩:=hv
  have I1:Inv X pins σ H { s with heap:=h',toks:=tk }:=I.turned (λb o hb e=>kk b o (by simpa using hb) e) f0 f1 f3 f4 f5
  refine⟨_,rfl,znn (s:={ s with heap:=h',toks:=tk }) (n:="range_iterator") st' rfl rfl (by decide) ⟨.int (lo+i),H,I1,⟨t,?_⟩,⟨rfl,rfl⟩,st',λb hb=>(hf b hb).1⟩⟩
  rw[Int.mul_one]
 done:=by
  intro X hP hw hK hc i pins s σ H E I hf st hg
  subst hP hw hK
  obtain⟨f0,f1,f2,f3,f4,f5⟩:=hf it (by simp)
  exact wpAny_pyNext_range_end (I.ok.hd hc) st (by have:n≤i:=hg; omega) λh' eb=>⟨rfl,I.turned (t':=s.toks) (λb o hb e=>eb b o hb e) f0 f1 f3 f4 f5⟩
 self:=λ_ _ _ _ _ st h=>wpAny_pyIter_rangeiter st h
end L2
namespace L2
open PySem PySem.Spec PyProof.Rows
section
variable {X:Cx}{tg:Expr}
def zm2 (K:PySem.W.Frag)(tl:TE):TI:=λσ H R=>tl σ H λx H1=>∃a,x=.ref a∧(∃xs,SqL K H1 a xs)∧R (Itl K a) H1
theorem zks {l:Expr}{tl:TE}(hl:PE X l tl):PI X tg l (zm2 X.K tl):=by
 intro pins s σ H R I h
 refine thn (hl pins s σ H _ I h) λv s1 ⟨x,H1,I1,r1,q1⟩=>?_
 obtain⟨a,e,⟨xs,hq⟩,q⟩:=q1
 subst e
 cases r1
 obtain⟨its,rv,p,hz⟩:=I1.list hq
 refine wpAny_pyIter_list p.isList ?_
 refine⟨s1.heap.objs.size,[s1.heap.objs.size],_,_,H1,rfl,I1.kept (t':=s1.toks) λb o e=>Heap.get?_push_of_some _ e,zsW a _,⟨_,Heap.get?_push_size _ rfl,rfl,rfl⟩,λb hb=>?_,q⟩
 have e:b=s1.heap.objs.size:=by simpa using hb
 subst e
 exact I1.fpOk (Vaa _) (I1.hok.fresh (Vaa _))
theorem zoW {pins:List (Addr×Obj)}{σ:St}{H:Hp}{s:Shared}{R:It→Hp→Prop}{E:Value→Shared→Prop}{lo hi:Int}{t u v:Tok}{tk:Nat}(I:Inv X pins σ H s)(h1:-(2^62)≤lo)(h2:lo<2^62)(h3:-(2^62)≤hi)(h4:hi<2^62)
  (q:R (Itr lo (hi-lo).toNat) H):wpAny (model X.prog X.w) X.A (pyIter (.ref s.heap.objs.size)) (PIE X pins σ tg R) E { s with heap:=s.heap.push { cls:=.type "range",data:=.fields #[.int lo t,.int hi u,.int 1 v] },toks:=tk }:=by
 refine wpAny_pyIter_range (IsRange.new ..) (small_one h1 h2 h3 h4) ?_
 have I1:Inv X pins σ H { s with heap:=s.heap.push { cls:=.type "range",data:=.fields #[.int lo t,.int hi u,.int 1 v] },toks:=tk }:=I.kept λb o e=>Heap.get?_push_of_some _ e
 refine⟨(s.heap.push { cls:=.type "range",data:=.fields #[.int lo t,.int hi u,.int 1 v] }).objs.size,[(s.heap.push { cls:=.type "range",data:=.fields #[.int lo t,.int hi u,.int 1 v] }).objs.size],_,_,H,rfl,
  I1.kept (t':=tk) λb o e=>Heap.get?_push_of_some _ e,zqd _ lo (hi-lo).toNat,?_,λb hb=>?_,q⟩
 ·have e1:lo+((0:Nat):Int)*1=lo:=by simp
  have e2:(((hi-lo).toNat:Nat):Int)-((0:Nat):Int)=Builtin.Range.rangeSize lo hi 1:=by rw[rangeSize_one]; split <;> omega
  show IsRangeIter _ _ (lo+((0:Nat):Int)*1) ((((hi-lo).toNat:Nat):Int)-((0:Nat):Int)) 1
  rw[e1,e2]
  exact Heap.get?_push_size _ rfl
 ·have e:b=(s.heap.push { cls:=.type "range",data:=.fields #[.int lo t,.int hi u,.int 1 v] }).objs.size:=by simpa using hb
  subst e
  exact I1.fpOk (Vaa _) (I1.hok.fresh (Vaa _))
def zm9 (ta:TA):TI:=λσ H R=>ta σ H λvs H1=>∃j:Int,vs=[.int j]∧-(2^62)≤j∧j<2^62∧R (Itr 0 j.toNat) H1
theorem zl3 {a:Expr}{ta:TA}{p pos:Pos}(hg:Gl X "range")(hm:X.mg "range"=none)(ha:PA X [a] ta)(hs:starEach [a] X.env=[(false,eval a X.env)]:=by rfl):PI X tg (.Call (.Name "range" p) [a] [] pos) (zm9 ta):=by
 intro pins s σ H R I h
 refine Call_ (zjP I hg hm boot_range (PyProof.Rows.callWith_type1 (thn (ha pos pins s σ H _ I h) λus s1 ⟨vs,H1,I1,r1,q1⟩=>?_) hs rfl))
 obtain⟨j,e,q1,q2,q⟩:=q1
 subst e
 cases r1 with
 | cons r rr=>
  cases rr
  obtain⟨t,rfl⟩:=r
  exact call_range_1 (zoW I1 (by omega) (by omega) q1 q2 (by simpa using q))
def tFor (wi:TI)(g:TG)(tb:TS):TS:=λD σ H=>wi σ H λJ H1=>∃W:Nat→Nat→St→Hp→Prop,(∃m,W 0 m σ H1)∧∀i m σ H,W i m σ H→
 (J.stop i H∧D.nx σ H)∨(J.go i H∧∃N:St→Hp→Prop,(∀σ' H',N σ' H'→∃m',m'<m∧W (i+1) m' σ' H')∧∀x H',J.yld i H x H'→g x σ H' λσ2 H2=>tb { D with nx:=N,ct:=N,bk:=D.nx } σ2 H2)
def zfk (fp:List Addr)(h:Heap):List (Addr×Obj):=fp.filterMap λb=>(h.get? b).map λo=>(b,o)
theorem zgC {fp:List Addr}{h:Heap}{b:Addr}{o:Obj}(hb:b∈fp)(e:h.get? b=some o):(b,o)∈zfk fp h:=List.mem_filterMap.mpr ⟨b,hb,by rw[e]; rfl⟩
theorem zoh {fp:List Addr}{h:Heap}{p:Addr×Obj}(hp:p∈zfk fp h):p.1∈fp∧h.get? p.1=some p.2:=by
 obtain⟨b,hb,e⟩:=List.mem_filterMap.mp hp
 cases q:h.get? b with
 | none=>rw[q] at e; cases e
 | some o=>
  rw[q] at e
  have e':(b,o)=p:=Option.some.inj e
  subst e'
  exact⟨hb,q⟩
theorem Inv.pinned {pins:List (Addr×Obj)}{σ:St}{H:Hp}{s:Shared}{fp:List Addr}(I:Inv X pins σ H s)(hf:∀b∈fp,zcN X pins H b)(ho:∀b∈fp,∃o,s.heap.get? b=some o∧∀v,o.data≠.cell v):Inv X (pins++zfk fp s.heap) σ H s:=
 I.pins_of λp hp=>(VaH.mp hp).elim (λz=>I.pin p (VaA _ z)) λz=>by
  obtain⟨hb,e⟩:=zoh z
  obtain⟨f0,f1,f2,_⟩:=hf p.1 hb
  obtain⟨o,e',d⟩:=ho p.1 hb
  rw[e] at e'; cases e'
  exact⟨e,f0,f1,f2,d⟩
theorem Inv.unpinned {pins pl:List (Addr×Obj)}{σ:St}{H:Hp}{s:Shared}(I:Inv X (pins++pl) σ H s):Inv X pins σ H s:=I.pins_of λp hp=>I.pin p (VaA _ (List.mem_append_left _ hp))
theorem zmd {iter:Expr}{body:List Stmt}{wi:TI}{g:TG}{tb:TS}{pos:Pos}(hp:PassesOwn (model X.prog X.w) X.A X.env X.xe)(hc:X.calm=true)(hi:PI X tg iter wi)(hg:PG X tg g)(hb:PSs X body tb)
  (hs:∀x,foldedSetIterable iter X.env x=pure x:=by intro _; rfl):PS X (.For tg iter body [] pos) (tFor wi g tb):=by
 intro pins s σ H D I h
 refine wpAny_For (thn (hi pins s σ H _ I h) λv s1 h1=>thn h1 λitv s2 h2=>?_) hs
 obtain⟨it,fp,tn,J,H2,e,I2,T,st2,f2,W,⟨m0,w0⟩,turn⟩:=h2
 subst e
 have stat:∀ {H':Hp},(∀b∈fp,H' b=none)→∀b∈fp,zcN X pins H' b:=λhn b hb=>⟨hn b hb,(f2 b hb).2⟩
 refine codeAny_forLoop_any (λn s'=>∃i σ' H',Inv X pins σ' H' s'∧tn i s'.heap∧(∀b∈fp,H' b=none)∧W i n σ' H') ?_ m0 ⟨0,σ,H2,I2,st2,λb hb=>(f2 b hb).1,w0⟩
 rintro n s3 ⟨i,σ3,H3,I3,st3,fr3,w3⟩
 rcases turn i n σ3 H3 w3 with ⟨stop,qn⟩ | ⟨go,N,hN,step⟩
 ·refine wpAny_passesOwn hp (thn (T.done X rfl rfl rfl hc i pins s3 σ3 H3 X.xe I3 (stat fr3) st3 stop) λr s4 ⟨hr,I4⟩=>?_)
  subst hr
  exact wpAny_execs_nil ⟨σ3,H3,I4,qn⟩
 ·refine wpAny_passesOwn hp (thn (T.item X rfl rfl rfl hc i pins s3 σ3 H3 X.xe I3 (stat fr3) st3 go) λr s4 ⟨u,hr,h4⟩=>?_)
  subst hr
  refine wpAny_passesOwn hp (thn h4 λ_ s5 ⟨x,H5,I5,r5,y5,st5,fr5⟩=>?_)
  have I5':=I5.pinned (stat fr5) (T.obj _ _ st5)
  refine wpAny_passesOwn hp (thn (hg _ s5 σ3 H5 x u _ I5' r5 (step x H5 y5)) λ_ s6 ⟨σ6,H6,I6,q6⟩=>?_)
  refine wpAny_passesOwn hp (thn (hb _ s6 σ6 H6 _ I6 q6) λf s7 q7=>?_)
  have again:∀ {σ7:St} {H7:Hp},Inv X (pins++zfk fp s5.heap) σ7 H7 s7→N σ7 H7→∃m,m<n∧∃i σ' H',Inv X pins σ' H' s7∧tn i s7.heap∧(∀b∈fp,H' b=none)∧W i m σ' H':=λ{σ7 H7} I7 n7=>by
   obtain⟨m',hm,w7⟩:=hN σ7 H7 n7
   refine⟨m',hm,i+1,σ7,H7,I7.unpinned,T.keep _ _ _ st5 λb hb o e=>(I7.pin (b,o) (VaA _ (VaA _ (zgC hb e)))).1,λb hb=>?_,w7⟩
   obtain⟨o,e,d⟩:=T.obj _ _ st5 b hb
   exact(I7.pin (b,o) (VaA _ (VaA _ (zgC hb e)))).2.1
  cases f with
  | next=>obtain⟨σ7,H7,I7,n7⟩:=q7; exact again I7 n7
  | cont=>obtain⟨σ7,H7,I7,n7⟩:=q7; exact again I7 n7
  | brk=>obtain⟨σ7,H7,I7,q7⟩:=q7; exact⟨σ7,H7,I7.unpinned,q7⟩
  | ret v=>obtain⟨x7,σ7,H7,I7,r7,q7⟩:=q7; exact⟨x7,σ7,H7,I7.unpinned,r7,q7⟩
end
end L2
namespace L2
open PySem PySem.Spec PyProof.Rows
abbrev R2:=V→V→Hp→VK→Prop
def OpR (X:Cx)(f:Value→Value→Sem Value)(r:R2):Prop:=
 ∀(pins:List (Addr×Obj)) (s:Shared) (σ:St) (H:Hp) (x y:V) (v u:Value) (Q:VK),Inv X pins σ H s→zax x v→zax y u→r x y H Q→
  wpAny (model X.prog X.w) X.A (f v u) (EP X pins σ Q) X.xe s
def UnR (X:Cx)(f:Value→Sem Value)(r:V→Hp→VK→Prop):Prop:=
 ∀(pins:List (Addr×Obj)) (s:Shared) (σ:St) (H:Hp) (x:V) (v:Value) (Q:VK),Inv X pins σ H s→zax x v→r x H Q→
  wpAny (model X.prog X.w) X.A (f v) (EP X pins σ Q) X.xe s
def za7 (X:Cx)(f:Value)(r:List V→Hp→VK→Prop):Prop:=
 ∀(pins:List (Addr×Obj)) (s:Shared) (σ:St) (H:Hp) (xs:List V) (us:List Value) (Q:VK),Inv X pins σ H s→zaw xs us→r xs H Q→
  wpAny (model X.prog X.w) X.A (call f us) (EP X pins σ Q) X.xe s
def tOp (r:R2)(ta tb:TE):TE:=λσ H Q=>ta σ H λx H1=>tb σ H1 λy H2=>r x y H2 Q
def tUn (r:V→Hp→VK→Prop)(ta:TE):TE:=λσ H Q=>ta σ H λx H1=>r x H1 Q
def rI (C:Int→Int→Prop)(g:Int→Int→V):R2:=λx y H Q=>∃i j,x=.int i∧y=.int j∧C i j∧Q (g i j) H
def rI0 (g:Int→Int→V):R2:=λx y H Q=>∃i j,x=.int i∧y=.int j∧Q (g i j) H
def rU (g:Int→V):V→Hp→VK→Prop:=λx H Q=>∃i,x=.int i∧Q (g i) H
section
variable {X:Cx}{a b c:Expr}{ta tb tc:TE}{pos:Pos}
theorem binT (ha:PE X a ta)(hb:PE X b tb){pins:List (Addr×Obj)}{s:Shared}{σ:St}{H:Hp}{R:V→V→Hp→Prop}(I:Inv X pins σ H s)
  (h:ta σ H λx H1=>tb σ H1 λy H2=>R x y H2){Q:Value→Shared→Prop}{f:Value→Value→Sem Value}
  (hf:∀v u s2 x y H2,Inv X pins σ H2 s2→zax x v→zax y u→R x y H2→wpAny (model X.prog X.w) X.A (f v u) Q X.xe s2):
  wpAny (model X.prog X.w) X.A (eval a X.env) (λv s₁=>wpAny (model X.prog X.w) X.A (eval b X.env) (λu s₂=>wpAny (model X.prog X.w) X.A (f v u) Q X.xe s₂) X.xe s₁) X.xe s:=by
 refine thn (ha pins s σ H _ I h) λv s1 ⟨x,H1,I1,r1,q1⟩=>?_
 refine thn (hb pins s1 σ H1 _ I1 q1) λu s2 ⟨y,H2,I2,r2,q2⟩=>?_
 exact hf v u s2 x y H2 I2 r1 r2 q2
theorem pe_op {op:Operator}{r:R2}(ho:OpR X (binaryOp op) r)(ha:PE X a ta)(hb:PE X b tb):PE X (.BinOp a op b pos) (tOp r ta tb):=by
 intro pins s σ H Q I h
 exact wpAny_BinOp (binT ha hb I h λv u s2 x y H2 I2 rx ry q=>ho pins s2 σ H2 x y v u Q I2 rx ry q)
theorem pe_un {op:UnaryOp}{r:V→Hp→VK→Prop}(ho:UnR X (unaryOp op) r)(ha:PE X a ta):PE X (.UnaryOp op a pos) (tUn r ta):=by
 intro pins s σ H Q I h
 exact UnaryOp_ (thn (ha pins s σ H _ I h) λv s1 ⟨x,H1,I1,r1,q1⟩=>ho pins s1 σ H1 x v Q I1 r1 q1)
theorem opI {f:Value→Value→Sem Value}{C:Int→Int→Prop}{g:Int→Int→Int}
  (rule:∀(i j:Int) (t u:Tok) (s:Shared) (Q:Value→Shared→Prop) (E:Value→Shared→Prop),C i j→Q (.int (g i j) s.toks) { s with toks:=s.toks+1 }→wpAny (model X.prog X.w) X.A (f (.int i t) (.int j u)) Q E s):
  OpR X f (rI C λi j=>.int (g i j)):=by
 intro pins s σ H x y v u Q I rx ry h
 obtain⟨i,j,rfl,rfl,hc,q⟩:=h
 obtain⟨t,rfl⟩:=rx
 obtain⟨t',rfl⟩:=ry
 exact rule i j t t' s _ _ hc ⟨.int (g i j),H,I.tok _,⟨_,rfl⟩,q⟩
theorem opI0 {f:Value→Value→Sem Value}{g:Int→Int→Int}
  (rule:∀(i j:Int) (t u:Tok) (s:Shared) (Q:Value→Shared→Prop) (E:Value→Shared→Prop),Q (.int (g i j) s.toks) { s with toks:=s.toks+1 }→wpAny (model X.prog X.w) X.A (f (.int i t) (.int j u)) Q E s):
  OpR X f (rI0 λi j=>.int (g i j)):=by
 intro pins s σ H x y v u Q I rx ry h
 obtain⟨i,j,rfl,rfl,q⟩:=h
 obtain⟨t,rfl⟩:=rx
 obtain⟨t',rfl⟩:=ry
 exact rule i j t t' s _ _ ⟨.int (g i j),H,I.tok _,⟨_,rfl⟩,q⟩
theorem zjm {f:Value→Value→Sem Value}{g:Int→Int→Bool}
  (rule:∀(i j:Int) (t u:Tok) (s:Shared) (Q:Value→Shared→Prop) (E:Value→Shared→Prop),Q (.bool (g i j)) s→wpAny (model X.prog X.w) X.A (f (.int i t) (.int j u)) Q E s):
  OpR X f (rI0 λi j=>.bl (g i j)):=by
 intro pins s σ H x y v u Q I rx ry h
 obtain⟨i,j,rfl,rfl,q⟩:=h
 obtain⟨t,rfl⟩:=rx
 obtain⟨t',rfl⟩:=ry
 exact rule i j t t' s _ _ ⟨.bl (g i j),H,I,rfl,q⟩
def zgM (i j:Int):Prop:=0≤j∧j≤1000000∧i.natAbs<2^64
def CMul (i j:Int):Prop:=(-(2^64)<i∧i<2^64)∨(-(2^64)<j∧j<2^64)
theorem CMul.ok {i j:Int}(h:CMul i j):IntMulOk i j:=by
 rcases h with ⟨h1,h2⟩ | ⟨h1,h2⟩
 ·exact .of_left (intBits_le_64 h1 h2)
 ·exact .of_right (intBits_le_64 h1 h2)
theorem zot:OpR X (binaryOp .Add) (rI0 λi j=>.int (i+j)):=opI0 λ_ _ _ _ _ _ _ q=>add_int q
theorem znK:OpR X (binaryOp .Sub) (rI0 λi j=>.int (i-j)):=opI0 λ_ _ _ _ _ _ _ q=>sub_int q
theorem zr4:OpR X (binaryOp .Mod) (rI (λ_ j=>0<j) λi j=>.int (i%j)):=opI λi j _ _ _ _ _ hc q=>by
 have h1:(0:Int)<j:=hc
 exact mod_int' (by omega) (by rw[Int.fmod_eq_emod_of_nonneg i (by omega)]; exact q)
theorem zqV:OpR X (binaryOp .Pow) (rI zgM λi j=>.int (i^j.toNat)):=opI λ_ _ _ _ _ _ _ hc q=>pow_int_small hc.1 hc.2.1 hc.2.2 q
theorem zrS:OpR X (binaryOp .LShift) (rI zgM λi j=>.int (i*2^j.toNat)):=opI λ_ _ _ _ _ _ _ hc q=>lshift_int_small hc.1 hc.2.1 hc.2.2 q
theorem unI {f:Value→Sem Value}{g:Int→Int}
  (rule:∀(i:Int) (t:Tok) (s:Shared) (Q:Value→Shared→Prop) (E:Value→Shared→Prop),Q (.int (g i) s.toks) { s with toks:=s.toks+1 }→wpAny (model X.prog X.w) X.A (f (.int i t)) Q E s):
  UnR X f (rU λi=>.int (g i)):=by
 intro pins s σ H x v Q I rx h
 obtain⟨i,rfl,q⟩:=h
 obtain⟨t,rfl⟩:=rx
 exact rule i t s _ _ ⟨.int (g i),H,I.tok _,⟨_,rfl⟩,q⟩
theorem zpJ:UnR X (unaryOp .USub) (rU λi=>.int (-i)):=unI λ_ _ _ _ _ q=>neg_int q
end
def zhQ:V→V→Bool
 | .non,.non=>true | .non,.int _=>true | .int _,.non=>true | .non,.bl _=>true | .bl _,.non=>true | .non,.str _=>true | .str _,.non=>true
 | .int _,.int _=>true | .bl _,.bl _=>true | .str _,.str _=>true | .byt _,.byt _=>true
 | .int _,.str _=>true | .str _,.int _=>true | .bl _,.str _=>true | .str _,.bl _=>true
 | _,_=>false
def rEq:R2:=λx y H Q=>zhQ x y=true∧Q (.bl (decide (x=y))) H
def rNe:R2:=λx y H Q=>zhQ x y=true∧Q (.bl (!decide (x=y))) H
theorem zl6 {i j:Int}:decide (V.int i=V.int j)=(i==j):=by
 rw[Bool.eq_iff_iff]
 simp
theorem zmc {i j:Bool}:decide (V.bl i=V.bl j)=(i==j):=by
 rw[Bool.eq_iff_iff]
 simp
theorem zng {i j:Str}:decide (V.str i=V.str j)=(i==j):=by
 rw[Bool.eq_iff_iff]
 simp
theorem zmf {i j:Array UInt8}:decide (V.byt i=V.byt j)=(i.toList==j.toList):=by
 rw[Bool.eq_iff_iff]
 cases i
 cases j
 simp
section
variable {X:Cx}{a b c:Expr}{ta tb tc:TE}{pos:Pos}
theorem zaQ {pins:List (Addr×Obj)}{σ:St}{H:Hp}{s:Shared}{Q:VK}{k k':Bool}(I:Inv X pins σ H s)(q:Q (.bl k) H)(e:k=k'):EP X pins σ Q (.bool k') s:=by
 subst e
 exact⟨.bl k,H,I,rfl,q⟩
theorem zkM:OpR X (compareOp .Eq) rEq:=by
 intro pins s σ H x y v u Q I rx ry h
 obtain⟨hs,q⟩:=h
 cases x with
 | non=>
  cases rx
  cases y with
  | non=>cases ry; exact PySem.EqNone.eq_none_none (zaQ I q (by simp))
  | bl j=>cases ry; exact PySem.EqNone.eq_none_bool (zaQ I q (by simp))
  | int j=>obtain⟨t',rfl⟩:=ry; exact PySem.EqNone.eq_none_int (zaQ I q (by simp))
  | str j=>obtain⟨t',rfl⟩:=ry; exact PySem.EqNone.eq_none_str (zaQ I q (by simp))
  | _=>exact absurd (show false=true from hs) Vaj
 | bl i=>
  cases rx
  cases y with
  | non=>cases ry; exact PySem.EqNone.eq_bool_none (zaQ I q (by simp))
  | bl j=>cases ry; exact eq_bool (zaQ I q zmc)
  | str j=>obtain⟨t',rfl⟩:=ry; exact PySem.EqMixed.eq_bool_str (zaQ I q (by simp))
  | _=>exact absurd (show false=true from hs) Vaj
 | int i=>
  obtain⟨t,rfl⟩:=rx
  cases y with
  | non=>cases ry; exact PySem.EqNone.eq_int_none (zaQ I q (by simp))
  | int j=>obtain⟨t',rfl⟩:=ry; exact eq_int (zaQ I q zl6)
  | str j=>obtain⟨t',rfl⟩:=ry; exact PySem.EqMixed.eq_int_str (zaQ I q (by simp))
  | _=>exact absurd (show false=true from hs) Vaj
 | str i=>
  obtain⟨t,rfl⟩:=rx
  cases y with
  | non=>cases ry; exact PySem.EqNone.eq_str_none (zaQ I q (by simp))
  | bl j=>cases ry; exact PySem.EqMixed.eq_str_bool (zaQ I q (by simp))
  | int j=>obtain⟨t',rfl⟩:=ry; exact PySem.EqMixed.eq_str_int (zaQ I q (by simp))
  | str j=>obtain⟨t',rfl⟩:=ry; exact eq_str (zaQ I q zng)
  | _=>exact absurd (show false=true from hs) Vaj
 | byt i=>
  obtain⟨t,rfl⟩:=rx
  cases y with
  | byt j=>obtain⟨t',rfl⟩:=ry; exact PySem.W.eq_bytes (zaQ I q zmf)
  | _=>exact absurd (show false=true from hs) Vaj
 | _=>cases y <;> exact absurd (show false=true from hs) Vaj
theorem op_ne:OpR X (compareOp .NotEq) rNe:=by
 intro pins s σ H x y v u Q I rx ry h
 obtain⟨hs,q⟩:=h
 cases x with
 | non=>
  cases rx
  cases y with
  | non=>cases ry; exact PySem.EqNone.ne_none_none (zaQ I q (by simp))
  | bl j=>cases ry; exact PySem.EqNone.ne_none_bool (zaQ I q (by simp))
  | int j=>obtain⟨t',rfl⟩:=ry; exact PySem.EqNone.ne_none_int (zaQ I q (by simp))
  | str j=>obtain⟨t',rfl⟩:=ry; exact PySem.EqNone.ne_none_str (zaQ I q (by simp))
  | _=>exact absurd (show false=true from hs) Vaj
 | bl i=>
  cases rx
  cases y with
  | non=>cases ry; exact PySem.EqNone.ne_bool_none (zaQ I q (by simp))
  | bl j=>cases ry; exact ne_bool (zaQ I q (congrArg not zmc))
  | str j=>obtain⟨t',rfl⟩:=ry; exact PySem.EqMixed.ne_bool_str (zaQ I q (by simp))
  | _=>exact absurd (show false=true from hs) Vaj
 | int i=>
  obtain⟨t,rfl⟩:=rx
  cases y with
  | non=>cases ry; exact PySem.EqNone.ne_int_none (zaQ I q (by simp))
  | int j=>obtain⟨t',rfl⟩:=ry; exact ne_int (zaQ I q (congrArg not zl6))
  | str j=>obtain⟨t',rfl⟩:=ry; exact PySem.EqMixed.ne_int_str (zaQ I q (by simp))
  | _=>exact absurd (show false=true from hs) Vaj
 | str i=>
  obtain⟨t,rfl⟩:=rx
  cases y with
  | non=>cases ry; exact PySem.EqNone.ne_str_none (zaQ I q (by simp))
  | bl j=>cases ry; exact PySem.EqMixed.ne_str_bool (zaQ I q (by simp))
  | int j=>obtain⟨t',rfl⟩:=ry; exact PySem.EqMixed.ne_str_int (zaQ I q (by simp))
  | str j=>obtain⟨t',rfl⟩:=ry; exact ne_str (zaQ I q (congrArg not zng))
  | _=>exact absurd (show false=true from hs) Vaj
 | byt i=>
  obtain⟨t,rfl⟩:=rx
  cases y with
  | byt j=>obtain⟨t',rfl⟩:=ry; exact PySem.W.ne_bytes (zaQ I q (congrArg not zmf))
  | _=>exact absurd (show false=true from hs) Vaj
 | _=>cases y <;> exact absurd (show false=true from hs) Vaj
theorem op_lt:OpR X (compareOp .Lt) (rI0 λi j=>.bl (decide (i<j))):=zjm λ_ _ _ _ _ _ _ q=>lt_int q
theorem op_le:OpR X (compareOp .LtE) (rI0 λi j=>.bl (decide (i≤j))):=zjm λ_ _ _ _ _ _ _ q=>le_int q
theorem op_gt:OpR X (compareOp .Gt) (rI0 λi j=>.bl (decide (j<i))):=zjm λ_ _ _ _ _ _ _ q=>gt_int q
theorem op_ge:OpR X (compareOp .GtE) (rI0 λi j=>.bl (decide (j≤i))):=zjm λ_ _ _ _ _ _ _ q=>ge_int q
theorem zq2:OpR X (compareOp .Is) (λx y H Q=>y=.non∧Q (.bl (decide (x=.non))) H):=by
 intro pins s σ H x y v u Q I rx ry h
 obtain⟨rfl,q⟩:=h
 cases ry
 refine is_none_gen (zaQ I q ?_)
 cases x <;> first
  | (cases rx; rfl)
  | (obtain⟨t,rfl⟩:=rx; rfl)
theorem zsm:OpR X (compareOp .IsNot) (λx y H Q=>y=.non∧Q (.bl (!decide (x=.non))) H):=by
 intro pins s σ H x y v u Q I rx ry h
 obtain⟨rfl,q⟩:=h
 cases ry
 refine isnot_none_gen (zaQ I q ?_)
 cases x <;> first
  | (cases rx; rfl)
  | (obtain⟨t,rfl⟩:=rx; rfl)
theorem OpR.or {f:Value→Value→Sem Value}{r r':R2}(h:OpR X f r)(h':OpR X f r'):OpR X f (λx y H Q=>r x y H Q∨r' x y H Q):=by
 intro pins s σ H x y v u Q I rx ry q
 rcases q with q | q
 ·exact h pins s σ H x y v u Q I rx ry q
 ·exact h' pins s σ H x y v u Q I rx ry q
theorem zam (b:Expr){op:CmpOp}(h:op≠.In:=by decide)(h2:op≠.NotIn:=by decide):behindInMarks op b=false:=by
 have e1:(op==CmpOp.In)=false:=by cases op <;> first | rfl | exact absurd rfl h
 have e2:(op==CmpOp.NotIn)=false:=by cases op <;> first | rfl | exact absurd rfl h2
 cases b <;> simp[behindInMarks,e1,e2]
theorem zqc {op:CmpOp}{r:R2}(ho:OpR X (compareOp op) r)(ha:PE X a ta)(hb:PE X b tb)(hm:behindInMarks op b=false):PE X (.Compare a [op] [b] pos) (tOp r ta tb):=by
 intro pins s σ H Q I h
 exact wpAny_Compare1 (binT ha hb I h λv u s2 x y H2 I2 rx ry q=>ho pins s2 σ H2 x y v u Q I2 rx ry q) hm
def zmY (t:TE):TT:=λσ H Q=>t σ H λx H'=>∃k,x=.bl k∧Q k H'
theorem zod {op:CmpOp}{r:R2}(ho:OpR X (compareOp op) r)(ha:PE X a ta)(hb:PE X b tb)(hm:behindInMarks op b=false):PT X (.Compare a [op] [b] pos) (zmY (tOp r ta tb)):=by
 intro pins s σ H Q I h
 refine wpAny_isTrue_Compare1 (thn (ha pins s σ H _ I h) λv s1 ⟨x,H1,I1,r1,q1⟩=>thn (hb pins s1 σ H1 _ I1 q1) λu s2 ⟨y,H2,I2,r2,q2⟩=>
  thn (ho pins s2 σ H2 x y v u _ I2 r1 r2 q2) λc s3 ⟨z,H3,I3,r3,k,e,q3⟩=>?_) hm
 subst e
 cases r3
 exact wpAny_truthy_bool ⟨H3,I3,q3⟩
def zk4 (r r':R2)(ta tb tc:TE):TE:=λσ H Q=>ta σ H λx H1=>tb σ H1 λy H2=>r x y H2 λz H3=>∃k,z=.bl k∧
 (if k=true then tc σ H3 λw' H4=>r' y w' H4 Q else Q (.bl false) H3)
theorem zqm {op op':CmpOp}{r r':R2}(ho:OpR X (compareOp op) r)(ho':OpR X (compareOp op') r')(ha:PE X a ta)(hb:PE X b tb)(hc:PE X c tc)
  (hm:lastMarks [op,op'] [b,c]=false:=by with_unfolding_all rfl):PE X (.Compare a [op,op'] [b,c] pos) (zk4 r r' ta tb tc):=by
 intro pins s σ H Q I h
 refine Compare_chain (thn (ha pins s σ H _ I h) λv s1 ⟨x,H1,I1,r1,q1⟩=>chain_link (thn (hb pins s1 σ H1 _ I1 q1) λu s2 ⟨y,H2,I2,r2,q2⟩=>
  thn (ho pins s2 σ H2 x y v u _ I2 r1 r2 q2) λd s3 ⟨z,H3,I3,r3,k,e,q3⟩=>?_)) hm
 subst e
 cases r3
 refine wpAny_truthy_bool ?_
 cases k with
 | false=>exact ite_ff ⟨.bl false,H3,I3,rfl,q3⟩
 | true=>exact ite_tt (chain_last (thn (hc pins s3 σ H3 _ I3 q3) λw' s4 ⟨z',H4,I4,r4,q4⟩=>ho' pins s4 σ H4 y z' u w' Q I4 r2 r4 q4))
theorem zp3 {op op':CmpOp}{r r':R2}(ho:OpR X (compareOp op) r)(ho':OpR X (compareOp op') r')(ha:PE X a ta)(hb:PE X b tb)(hc:PE X c tc)
  (hm:lastMarks [op,op'] [b,c]=false:=by with_unfolding_all rfl):PT X (.Compare a [op,op'] [b,c] pos) (zmY (zk4 r r' ta tb tc)):=by
 intro pins s σ H Q I h
 refine isTrue_chain (thn (ha pins s σ H _ I h) λv s1 ⟨x,H1,I1,r1,q1⟩=>test_link (thn (hb pins s1 σ H1 _ I1 q1) λu s2 ⟨y,H2,I2,r2,q2⟩=>
  thn (ho pins s2 σ H2 x y v u _ I2 r1 r2 q2) λd s3 ⟨z,H3,I3,r3,k,e,q3⟩=>?_)) hm
 subst e
 cases r3
 refine wpAny_truthy_bool ?_
 cases k with
 | false=>
  obtain⟨k',e',q'⟩:=q3
  cases e'
  exact ite_ff ⟨H3,I3,q'⟩
 | true=>
  refine ite_tt (test_last (thn (hc pins s3 σ H3 _ I3 q3) λw' s4 ⟨z',H4,I4,r4,q4⟩=>thn (ho' pins s4 σ H4 y z' u w' _ I4 r2 r4 q4) λd' s5 ⟨z2,H5,I5,r5,k2,e2,q5⟩=>?_))
  subst e2
  cases r5
  exact wpAny_truthy_bool ⟨H5,I5,q5⟩
theorem ziY:(sizeLine:Nat)<2^63:=by rw[sizeLine_eq]; decide
theorem zf8 {x:V}{us:List Value}(r:zaw [x] us):∃u,us=[u]∧zax x u:=by
 cases r with
 | cons r1 r2=>cases r2; exact⟨_,rfl,r1⟩
theorem zk0 {x y:V}{us:List Value}(r:zaw [x,y] us):∃u w',us=[u,w']∧zax x u∧zax y w':=by
 cases r with
 | cons r1 r2=>
  cases r2 with
  | cons r3 r4=>cases r4; exact⟨_,_,rfl,r1,r3⟩
theorem zrU:za7 X (.builtin "abs") (λxs H Q=>∃i,xs=[.int i]∧Q (.int (if i<0 then -i else i)) H):=by
 intro pins s σ H xs us Q I r h
 obtain⟨i,rfl,q⟩:=h
 obtain⟨u,rfl,t,rfl⟩:=zf8 r
 exact call_abs_int λu tk=>⟨.int (if i<0 then -i else i),H,I.tok _,⟨_,rfl⟩,q⟩
theorem zrm (hc:X.calm=true):za7 X (.builtin "max") (λxs H Q=>∃i j,xs=[.int i,.int j]∧Q (.int (if j > i then j else i)) H):=by
 intro pins s σ H xs us Q I r h
 obtain⟨i,j,rfl,q⟩:=h
 obtain⟨u,w',rfl,⟨t,rfl⟩,⟨t',rfl⟩⟩:=zk0 r
 refine max_two_ints (I.ok.hd hc) λh' tk k=>⟨_,H,I.kept k,?_,q⟩
 by_cases hj:j > i
 ·rw[if_pos hj,if_pos hj]; exact⟨_,rfl⟩
 ·rw[if_neg hj,if_neg hj]; exact⟨_,rfl⟩
theorem zpi (hc:X.calm=true):za7 X (.builtin "min") (λxs H Q=>∃i j,xs=[.int i,.int j]∧Q (.int (if j<i then j else i)) H):=by
 intro pins s σ H xs us Q I r h
 obtain⟨i,j,rfl,q⟩:=h
 obtain⟨u,w',rfl,⟨t,rfl⟩,⟨t',rfl⟩⟩:=zk0 r
 refine min_two_ints (I.ok.hd hc) λh' tk k=>⟨_,H,I.kept k,?_,q⟩
 by_cases hj:j<i
 ·rw[if_pos hj,if_pos hj]; exact⟨_,rfl⟩
 ·rw[if_neg hj,if_neg hj]; exact⟨_,rfl⟩
end
end L2
namespace L2
open PySem PySem.Spec PyProof.Rows
structure zdj (h:Heap)(x dx C:Addr)(mA:Str→Option Value):Prop where
 obj:h.get? x=some (PySem.W.instObj C dx)
 ns:h.Ns1 dx mA
 ne:dx≠x
theorem zqU {h:Heap}{dx:Addr}{mA:Str→Option Value}(n:h.Ns1 dx mA):∃od,h.get? dx=some od∧∀name,PySem.W.lookIn name od=some (mA name):=by
 obtain⟨o,es,ep,ho,hd,hk,_,hm⟩:=n
 refine⟨o,ho,λname=>?_⟩
 have e:=hm name
 unfold nsFind findBy at e
 rw[← Array.find?_toList] at e
 unfold PySem.W.lookIn
 rw[hd]
 dsimp only
 split
 ·rename_i y q
  rw[q] at e
  exact congrArg some e
 ·rename_i q
  rw[q] at e
  have a:es.toList.any (·.refKey)=false:=by
   rw[List.any_eq_false]
   intro y hy
   obtain⟨z,t,hkey⟩:=hk y (Array.mem_toList_iff.mp hy)
   simp[DictEntry.refKey,hkey]
  have a':¬ es.toList.any (·.refKey)=true:=by rw[a]; exact Vaj
  rw[if_neg a']
  exact congrArg some e
theorem zdj.look {h:Heap}{x dx C:Addr}{mA:Str→Option Value}(I:zdj h x dx C mA):∃od,PySem.W.InstAt h x (PySem.W.instObj C dx) C (some od)∧∀name,PySem.W.lookIn name od=some (mA name):=
 let ⟨od,ho,hl⟩:=zqU I.ns
 ⟨od,⟨I.obj,rfl,rfl,ho⟩,hl⟩
section
variable {prog:Program}{w:World}{A:Around}{E:Value→Shared→Prop}{s:Shared}{K:PySem.W.Frag}{x dx C f:Addr}{mA:Str→Option Value}{name:Str}{v:Value}
theorem zqC {expr:Bool}{Q:Value→Shared→Prop}(X:K.In s.heap)(I:zdj s.heap x dx C mA)(hg:PySem.W.plainGet K C name=true)(hh:PySem.W.hasDictIn K C=true)
  (ha:PySem.W.findIn K (.ref C) name=some none)(hv:mA name=some v)(hv':PySem.W.handedIn v=true)(h:Q v { s with toks:=s.toks+1 }):
  wpAny (model prog w) A (getAttr (.ref x) name expr) Q E s:=by
 obtain⟨od,J,hl⟩:=I.look
 exact PySem.W.get_value X J (PySem.W.plainGet_of hg).1 (PySem.W.findObj_own hh ha rfl (by rw[hl,hv])) hv' h
theorem zrb {pl:Sem Bool}{Q:Value×List Value→Shared→Prop}(X:K.In s.heap)(I:zdj s.heap x dx C mA)(hg:PySem.W.plainGet K C name=true)
  (hf:PySem.W.findIn K (.ref C) name=some (some (.ref f)))(ht:PySem.W.isFn K (.ref f)=true)(hv:mA name=none)(h:Q (.ref f,[.ref x]) s):
  wpAny (model prog w) A (getMethod (.ref x) name pl) Q E s:=by
 obtain⟨od,J,hl⟩:=I.look
 exact PySem.W.method_fn X J (PySem.W.plainGet_of hg).1 (PySem.W.plainGet_of hg).2 hf (beq_iff_eq.mp ht) (by show (PySem.W.lookIn name od).map (·.isSome)=some false; rw[hl,hv]; rfl) h
theorem zrr {ns:List Str}{Q:Unit→Shared→Prop}(X:K.In s.heap)(I:zdj s.heap x dx C mA)
  (hs:PySem.W.findIn K (.ref C) "__setattr__"=some (some (.builtin "object.__setattr__")))(hp:PySem.W.plainOver K C=true)(ht:PySem.W.takerIn K C name=some none)(hh:PySem.W.hasDictIn K C=true)
  (hw:PySem.Within mA ns)(hsz:ns.length≤sizeLine)
  (h:∀h',zdj h' x dx C (λy=>if y=name then some v else mA y)→Heap.SameBut dx s.heap h'→Q () { s with heap:=h',toks:=s.toks+2 }):
  wpAny (model prog w) A (setAttr (.ref x) name v) Q E s:=by
 obtain⟨od,J,hl⟩:=I.look
 refine PySem.W.set_plain X J hs (PySem.W.osa_open (s:={ s with toks:=s.toks+1 }) (r:=none) X J hp ht λb=>?_)
 obtain⟨cd,hc,hd'⟩:=PySem.W.any_some hh
 have hx:s.heap.get? x=some ⟨.ref C,some dx,.plain,#[]⟩:=I.obj
 refine wpAny_bind (wpAny_pure (wpAny_bind (wpAny_bind (wpAny_loadPart hx (wpAny_bind (PySem.W.Looks.here (s:={ s with toks:=s.toks+1 }) (PySem.W.looks_clsIn X hc) ?_))))))
 rw[hd']
 refine wpAny_pure (a:=some dx) (wpAny_bind (wpAny_pure (wpAny_bind ?_)))
 refine wpAny_nsSet1 (s:={ s with toks:=s.toks+1 }) I.ns λh' hn2 hs2=>?_
 obtain⟨oD,esD,epD,hoD,hdD,hcD⟩:=hn2.count (PySem.Within.cons name v hw)
 refine wpAny_bind (wpAny_lookBehind hoD (by rw[hdD]; exact pastItsLine_dict (Vas hcD (by rw[VaP]; omega))) ?_)
 exact wpAny_pure (h _ ⟨(hs2.2 _ (Ne.symm I.ne)).trans I.obj,hn2,I.ne⟩ hs2)
theorem zoj {R:Result→Shared→Prop}{vs:List Value}{kw:List (Str×Value)}(X:K.In s.heap)(hm:PySem.W.makesIn K C=true)
  (hi:PySem.W.findIn K (.ref C) "__init__"=some (some (.ref f)))(hf:PySem.W.typeIn K (.ref f)=some (.type "function"))
  (h:codeAny (model prog w) (A.under (.builtin "type.__call__" ⟨.ref C::vs,kw⟩)) (.call (.ref f) ⟨.ref (s.heap.objs.size+1)::vs,kw⟩) (PySem.W.InitBack (s.heap.objs.size+1) R)
   { s with heap:=(s.heap.push PySem.W.emptyDict).push (PySem.W.instObj C s.heap.objs.size) }):
  codeAny (model prog w) A (.call (.ref C) ⟨vs,kw⟩) R s:=by
 obtain⟨hh,g,d,t,os⟩:=s
 exact PySem.W.make_core (PySem.W.makes_of X hm) (PySem.W.looks_findIn X hi) (λself=>PySem.W.bind_fn X self hf) (.inl rfl) h
end
def zbb (f:Str)(v:V):List (Str×V)→List (Str×V)
 | []=>[(f,v)]
 | (g,x)::r=>if g=f then (g,v)::r else (g,x)::zbb f v r
theorem zmL (f g:Str)(v:V):∀fs:List (Str×V),(zbb f v fs).lookup g=if g=f then some v else fs.lookup g
 | []=>by
  show List.lookup g [(f,v)]=_
  by_cases h:g=f
  ·have hb:(g==f)=true:=beq_iff_eq.mpr h
   simp only[List.lookup,hb,if_pos h]
  ·have hb:(g==f)=false:=beq_eq_false_iff_ne.mpr h
   simp only[List.lookup,hb,if_neg h]
 | (k,x)::r=>by
  have ih:=zmL f g v r
  rw[show zbb f v ((k,x)::r)=(if k=f then (k,v)::r else (k,x)::zbb f v r) from rfl]
  by_cases hk:k=f
  ·rw[if_pos hk]
   by_cases h:g=k
   ·have hb:(g==k)=true:=beq_iff_eq.mpr h
    simp only[List.lookup,hb,if_pos (h.trans hk)]
   ·have hb:(g==k)=false:=beq_eq_false_iff_ne.mpr h
    simp only[List.lookup,hb,if_neg (λe:g=f=>h (e.trans hk.symm))]
  ·rw[if_neg hk]
   by_cases h:g=k
   ·have hb:(g==k)=true:=beq_iff_eq.mpr h
    simp only[List.lookup,hb,if_neg (λe:g=f=>hk (h.symm.trans e))]
   ·have hb:(g==k)=false:=beq_eq_false_iff_ne.mpr h
    simp only[List.lookup,hb]
    exact ih
theorem zlm (f:Str)(v:V):∀fs:List (Str×V),f∈(zbb f v fs).map (·.1)∧∀g,g∈fs.map (·.1)→g∈(zbb f v fs).map (·.1)
 | []=>⟨by simp[zbb],λg h=>by simp at h⟩
 | (k,x)::r=>by
  obtain⟨i1,i2⟩:=zlm f v r
  rw[show zbb f v ((k,x)::r)=(if k=f then (k,v)::r else (k,x)::zbb f v r) from rfl]
  by_cases hk:k=f
  ·rw[if_pos hk]
   subst hk
   exact⟨by simp,λg h=>by simpa using h⟩
  ·rw[if_neg hk]
   refine⟨?_,λg h=>?_⟩
   ·rw[Vak]
    exact Vaz _ i1
   ·rw[Vak] at h ⊢
    rcases Vae.mp h with e | e
    ·exact Vae.mpr (.inl e)
    ·exact Vaz _ (i2 g e)
theorem znl (f:Str)(v:V):∀fs:List (Str×V),(zbb f v fs).length≤fs.length+1
 | []=>by simp[zbb]
 | (k,x)::r=>by
  have ih:=znl f v r
  rw[show zbb f v ((k,x)::r)=(if k=f then (k,v)::r else (k,x)::zbb f v r) from rfl]
  by_cases hk:k=f
  ·rw[if_pos hk,VaP,VaP]; omega
  ·rw[if_neg hk,VaP,VaP]; omega
theorem zbm.some_of {v:V}{o:Option Value}(r:zbm (some v) o):∃u,o=some u∧zax v u:=by
 cases o with
 | none=>exact(show False from r).elim
 | some u=>exact⟨u,rfl,r⟩
theorem zbm.none_of {o:Option Value}(r:zbm none o):o=none:=by
 cases o with
 | none=>rfl
 | some u=>exact(show False from r).elim
theorem zrx {v:V}{u:Value}(r:zax v u):PySem.W.handedIn u=true:=by
 cases v with
 | non=>cases (show u=Value.none from r); rfl
 | bl b=>cases (show u=Value.bool b from r); rfl
 | int i=>obtain⟨t,e⟩:=(show ∃t,u=Value.int i t from r); cases e; rfl
 | str x=>obtain⟨t,e⟩:=(show ∃t,u=Value.str x t from r); cases e; rfl
 | byt b=>obtain⟨t,e⟩:=(show ∃t,u=Value.bytes b t from r); cases e; rfl
 | flt b=>obtain⟨t,e⟩:=(show ∃t,u=Value.float b t from r); cases e; rfl
 | ref a=>cases (show u=Value.ref a from r); rfl
 | ty n=>cases (show u=Value.type n from r); rfl
section
variable {P:Program}{w:World}{H H':Hp}{h h':Heap}{a C dx:Addr}{fs fs':List (Str×V)}
theorem zg6 (hok:HOk P w H h)(e:H a=some (.ins C dx fs)):∃mA,zdj h a dx C mA∧(∀f,zbm (fs.lookup f) (mA f))∧PySem.Within mA (fs.map (·.1))∧fs.length≤1000∧H dx=some (.own a):=by
 obtain⟨d,z,ne,ob,mA,n,r,q⟩:=(show zbc P w H h a (.ins C dx fs) from hok a _ e)
 exact⟨mA,⟨ob,n,ne⟩,r,q,z,d⟩
end
structure Cls (K:PySem.W.Frag)(C:Addr):Prop where
 pg:PySem.W.plainGet K C Str.empty=true
 hd:PySem.W.hasDictIn K C=true
 po:PySem.W.plainOver K C=true
 sa:PySem.W.findIn K (.ref C) "__setattr__"=some (some (.builtin "object.__setattr__"))
theorem Cls.get {K:PySem.W.Frag}{C:Addr}(c:Cls K C)(f:Str):PySem.W.plainGet K C f=true:=c.pg
def zbd (K:PySem.W.Frag)(C:Addr)(f:Str):Prop:=PySem.W.findIn K (.ref C) f=some none
theorem zbd.taker {K:PySem.W.Frag}{C:Addr}{f:Str}(n:zbd K C f):PySem.W.takerIn K C f=some none:=by
 unfold PySem.W.takerIn
 rw[show PySem.W.findIn K (.ref C) f=some none from n]
 rfl
structure Con (K:PySem.W.Frag)(C:Addr)(f:Str)(v:V)(u:Value):Prop where
 at_:PySem.W.findIn K (.ref C) f=some (some u)
 rel:zax v u
 get:PySem.W.specialIn K u "__get__"=some none
 cp:PySem.W.copiedNames.contains f=false
structure zeQ (K:PySem.W.Frag)(C:Addr)(m:Str)(f:Addr):Prop where
 at_:PySem.W.findIn K (.ref C) m=some (some (.ref f))
 fn:PySem.W.isFn K (.ref f)=true
 kp:PySem.W.keepIn K (.ref f)=true
section
variable {X:Cx}{pins:List (Addr×Obj)}{σ:St}{H:Hp}{s:Shared}{a C dx:Addr}{fs:List (Str×V)}{f:Str}{v:V}{A:Around}{E:Value→Shared→Prop}
theorem zpM {b:Bool}{Q:Value→Shared→Prop}(I:Inv X pins σ H s)(e:H a=some (.ins C dx fs))(c:Cls X.K C)(n:zbd X.K C f)(l:fs.lookup f=some v)
  (h:∀u s',Inv X pins σ H s'→zax v u→Q u s'):wpAny (model X.prog X.w) A (getAttr (.ref a) f b) Q E s:=by
 obtain⟨mA,O,r,_,_,_⟩:=zg6 I.hok e
 obtain⟨u,hu,ru⟩:=zbm.some_of (v:=v) (o:=mA f) (by rw[← l]; exact r f)
 exact zqC I.kIn O (c.get f) c.hd n hu (zrx ru) (h u _ (I.tok _) ru)
theorem zmF {m:Str}{g:Addr}{pl:Sem Bool}{Q:Value×List Value→Shared→Prop}(I:Inv X pins σ H s)(e:H a=some (.ins C dx fs))(c:Cls X.K C)(k:zeQ X.K C m g)(l:fs.lookup m=none)
  (h:Q (.ref g,[.ref a]) s):wpAny (model X.prog X.w) A (getMethod (.ref a) m pl) Q E s:=by
 obtain⟨mA,O,r,_,_,_⟩:=zg6 I.hok e
 have hn:mA m=none:=zbm.none_of (by rw[← l]; exact r m)
 exact zrb I.kIn O (c.get m) k.at_ k.fn hn h
theorem zof {y:V}{u:Value}{Q:Unit→Shared→Prop}(I:Inv X pins σ H s)(e:H a=some (.ins C dx fs))(c:Cls X.K C)(n:zbd X.K C f)(hl:fs.length<1000)(ry:zax y u)
  (h:∀s',Inv X pins σ (upd H a (.ins C dx (zbb f y fs))) s'→Q () s'):wpAny (model X.prog X.w) A (setAttr (.ref a) f u) Q E s:=by
 obtain⟨mA,O,r,wi,_,ho⟩:=zg6 I.hok e
 have hz:(fs.map (·.1)).length≤sizeLine:=by rw[Vab,sizeLine_eq]; omega
 refine zrr I.kIn O c.sa c.po n.taker c.hd wi hz λh' O' sb=>h _ ?_
 have hd:∃o,h'.get? dx=some o:=let ⟨o,_,_,e',_⟩:=O'.ns; ⟨o,e'⟩
 refine I.write (x:=a) (e:=dx) (by rw[e]; exact True.intro) (.inr ho) (λb q hb z=>(sb.2 b hb).trans z) hd ?_
 refine⟨by rw[za4 O.ne]; exact ho,?_,O.ne,O'.obj,_,O'.ns,λg=>?_,λg hg=>?_⟩
 ·have:=znl f y fs; omega
 ·show zbm ((zbb f y fs).lookup g) (if g=f then some u else mA g)
  rw[zmL]
  by_cases q:g=f
  ·rw[if_pos q,if_pos q]; exact ry
  ·rw[if_neg q,if_neg q]; exact r g
 ·by_cases q:g=f
  ·rw[q]; exact(zlm f y fs).1
  ·refine(zlm f y fs).2 g (wi g λz=>hg ?_)
   show (if g=f then some u else mA g)=none
   rw[if_neg q]; exact z
theorem Inv.made (I:Inv X pins σ H s):Inv X pins σ (upd (upd H s.heap.objs.size (.own (s.heap.objs.size+1))) (s.heap.objs.size+1) (.ins C s.heap.objs.size []))
  { s with heap:=(s.heap.push PySem.W.emptyDict).push (PySem.W.instObj C s.heap.objs.size) }:=by
 have e1:(s.heap.push PySem.W.emptyDict).get? s.heap.objs.size=some PySem.W.emptyDict:=Heap.get?_push_size s.heap rfl
 have e2:((s.heap.push PySem.W.emptyDict).push (PySem.W.instObj C s.heap.objs.size)).get? (s.heap.objs.size+1)=some (PySem.W.instObj C s.heap.objs.size):=by
  have:=Heap.get?_push_size (s.heap.push PySem.W.emptyDict) (o:=PySem.W.instObj C s.heap.objs.size) rfl
  rwa [Heap.size_push] at this
 have e3:(s.heap.push PySem.W.emptyDict).Ns s.heap.objs.size (λ_=>none):=⟨PySem.W.emptyDict,#[],_,e1,rfl,(λe he=>absurd he (by simp)),λ_=>rfl⟩
 have I1:=I.laid (a:=s.heap.objs.size) (o:=.own (s.heap.objs.size+1)) (h':=s.heap.push PySem.W.emptyDict) (t':=s.toks) (λb u q=>Heap.get?_push_of_some _ q) (Vaa _) ⟨_,e1⟩
 refine I1.laid (a:=s.heap.objs.size+1) (o:=.ins C s.heap.objs.size []) (t':=s.toks) (λb u q=>Heap.get?_push_of_some _ q) (Nat.le_of_eq (Heap.size_push _ _)) ?_
 have ne:s.heap.objs.size≠s.heap.objs.size+1:=Vaq (Nat.lt_succ_self _)
 refine⟨by rw[za4 ne,zc0],VaU _,ne,e2,λ_=>none,(Heap.Ns1.of_empty e3).at λo q=>Heap.get?_push_of_some _ q,λ_=>True.intro,λy hy=>absurd rfl hy⟩
theorem zpd {prog:Program}{w:World}{env:Env}{e:Expr}{f:Str}{pos:Pos}{s:Shared}{Q:Value→Shared→Prop}(hb:attributeBase e f env (eval e env)=eval e env)
  (h:wpAny (model prog w) A (eval e env) (λo s₁=>wpAny (model prog w) A (getAttr o f true) Q E s₁) E s):wpAny (model prog w) A (eval (.Attribute e f pos) env) Q E s:=
 Attribute_any_ h (by rw[arm_eval_Attribute,hb])
end
def tFld (K:PySem.W.Frag)(ta:TE)(f:Str):TE:=λσ H Q=>ta σ H λx H1=>∃a C dx fs v,x=.ref a∧H1 a=some (.ins C dx fs)∧Cls K C∧zbd K C f∧fs.lookup f=some v∧Q v H1
def sFld (K:PySem.W.Frag)(ta tv:TE)(f:Str):TS:=λD σ H=>tv σ H λy H1=>ta σ H1 λx H2=>∃a C dx fs,x=.ref a∧H2 a=some (.ins C dx fs)∧Cls K C∧zbd K C f∧fs.length<1000∧
 D.nx σ (upd H2 a (.ins C dx (zbb f y fs)))
section
variable {X:Cx}{o e value:Expr}{f:Str}{pos pos' tpos:Pos}{ta tv:TE}
theorem zsF (he:PE X e ta)(hb:attributeBase e f X.env (eval e X.env)=eval e X.env):PE X (.Attribute e f pos) (tFld X.K ta f):=by
 intro pins s σ H Q I h
 refine zpd hb (thn (he pins s σ H _ I h) λu s1 ⟨x,H1,I1,rx,a,C,dx,fs,v,ex,ea,c,n,l,q⟩=>?_)
 subst ex
 obtain rfl:u=Value.ref a:=rx
 exact zpM I1 ea c n l λu' s2 I2 ru=>⟨v,H1,I2,ru,q⟩
theorem zn4 (ha:PE X o ta)(hv:PE X value tv)(hs:swapsWith value (some (.Attribute o f pos')) pos.line X.env=pure false):PS X (.Assign [.Attribute o f pos'] value pos) (sFld X.K ta tv f):=by
 intro pins s σ H D I h
 refine plainObj_wpAny_Assign_Attribute (thn (hv pins s σ H _ I h) λu s1 ⟨y,H1,I1,ry,q⟩=>thn (ha pins s1 σ H1 _ I1 q) λov s2 ⟨x,H2,I2,rx,a,C,dx,fs,ex,ea,c,n,l,q2⟩=>?_) hs
 subst ex
 obtain rfl:ov=Value.ref a:=rx
 exact zof I2 ea c n l ry λs3 I3=>⟨σ,_,I3,q2⟩
end
section
variable {X:Cx}{pins:List (Addr×Obj)}{σ:St}{H:Hp}{s:Shared}{A:Around}{E:Value→Shared→Prop}{Q:Value→Shared→Prop}{c:Value}{b:Bool}
inductive zbM (K:PySem.W.Frag)(H:Hp):V→Value→Prop where
 | non:zbM K H .non (.type "NoneType")
 | bl (x:Bool):zbM K H (.bl x) (.type "bool")
 | int (i:Int):zbM K H (.int i) (.type "int")
 | str (x:Str):zbM K H (.str x) (.type "str")
 | flt (x:UInt64):zbM K H (.flt x) (.type "float")
 | lst {a:Addr} {xs:List V} (e:H a=some (.lst xs)):zbM K H (.ref a) (.type "list")
 | frz {a:Addr} {o:Obj} {xs:List V} (e:H a=some (.frz o (.lst xs))):zbM K H (.ref a) (.type "list")
 | tup {a:Addr} {xs:List V} (e:H a=some (.tup xs)):zbM K H (.ref a) (.type "tuple")
 | dK {a:Addr} {kvs:List (Key×V)} (e:H a=some (.dK kvs)):zbM K H (.ref a) (.type "dict")
 | dT {a:Addr} {kvs:List (List Key×V)} (e:H a=some (.dT kvs)):zbM K H (.ref a) (.type "dict")
 | ins {a C dx:Addr} {fs:List (Str×V)} (e:H a=some (.ins C dx fs)) (cl:Cls K C) (ha:PySem.W.findIn K (.ref C) "__class__"=some (some (.builtin "object.__class__")))
   (hn:PySem.W.specialIn K (.builtin "object.__class__") "__get__"=some (some (.builtin "getset_descriptor.__get__"))) (htk:PySem.W.takesIn K (.builtin "object.__class__")=some true)
   (hm:PySem.W.mroIn K C (.type "object")=some true):zbM K H (.ref a) (.ref C)
theorem znC {x:V}{u t:Value}(I:Inv X pins σ H s)(rx:zax x u)(ty:zbM X.K H x t)(e:PySem.W.kitOne X.K t c=some b)(h:∀tk,Q (.bool b) { s with toks:=tk }):
  wpAny (model X.prog X.w) A (call (.builtin "isinstance") [u,c]) Q E s:=by
 cases ty with
 | non=>cases (show u=Value.none from rx); exact PySem.W.kia_one PySem.W.kitx_none I.kIn True.intro e (λz=>nomatch z) h
 | bl y=>cases (show u=Value.bool y from rx); exact PySem.W.kia_one PySem.W.kitx_bool I.kIn True.intro e (λz=>nomatch z) h
 | int i=>obtain⟨t,q⟩:=(show ∃t,u=Value.int i t from rx); cases q; exact PySem.W.kia_one PySem.W.kitx_int I.kIn True.intro e (λz=>nomatch z) h
 | str y=>obtain⟨t,q⟩:=(show ∃t,u=Value.str y t from rx); cases q; exact PySem.W.kia_one PySem.W.kitx_str I.kIn True.intro e (λz=>nomatch z) h
 | flt y=>obtain⟨t,q⟩:=(show ∃t,u=Value.float y t from rx); cases q; exact PySem.W.kia_one PySem.W.kitx_float I.kIn True.intro e (λz=>nomatch z) h
 | @lst a xs ea=>
  cases (show u=Value.ref a from rx)
  obtain⟨_,_,n,_,h1⟩:=(show zbc X.prog X.w H s.heap a (.lst xs) from I.hok a _ ea)
  exact PySem.W.kia_one PySem.W.kitx_list I.kIn ⟨_,h1,rfl⟩ e (λz=>nomatch z) h
 | @frz a ob xs ea=>
  cases (show u=Value.ref a from rx)
  obtain⟨_,_,_,n,_,h1⟩:=(show zbc X.prog X.w H s.heap a (.frz ob (.lst xs)) from I.hok a _ ea)
  exact PySem.W.kia_one PySem.W.kitx_list I.kIn ⟨_,h1,rfl⟩ e (λz=>nomatch z) h
 | @tup a xs ea=>
  cases (show u=Value.ref a from rx)
  obtain⟨_,_,_,p⟩:=(show zbc X.prog X.w H s.heap a (.tup xs) from I.hok a _ ea)
  obtain⟨o,h1,h2,_⟩:=p
  exact PySem.W.kia_one PySem.W.kitx_tuple I.kIn ⟨o,h1,h2⟩ e (λz=>nomatch z) h
 | @dK a kvs ea=>
  cases (show u=Value.ref a from rx)
  obtain⟨_,_,vs,_,p⟩:=(show zbc X.prog X.w H s.heap a (.dK kvs) from I.hok a _ ea)
  obtain⟨o,es,ep,h1,h2,_⟩:=p
  exact PySem.W.kia_one PySem.W.kitx_dict I.kIn ⟨o,h1,h2.1⟩ e (λz=>nomatch z) h
 | @dT a kvs ea=>
  cases (show u=Value.ref a from rx)
  obtain⟨_,_,xs,_,o,es,ep,h1,h2,_⟩:=(show zbc X.prog X.w H s.heap a (.dT kvs) from I.hok a _ ea)
  exact PySem.W.kia_one PySem.W.kitx_dict I.kIn ⟨o,h1,h2.1⟩ e (λz=>nomatch z) h
 | @ins a C dx fs ea cl ha hn htk hm=>
  cases (show u=Value.ref a from rx)
  obtain⟨mA,O,_⟩:=zg6 I.hok ea
  obtain⟨od,J,_⟩:=O.look
  exact PySem.W.kia_one (PySem.W.kitx_own (cl.get _) cl.hd ha hn htk hm) I.kIn J e (λz=>nomatch z) h
end
end L2
namespace L2
open PySem PySem.Spec PyProof.Rows
structure zaE (k:Nat)(A:Around):Prop where
 hd:A.handled=none
 dp:A.depth+3*k+5<recursionLimit
 un:A.units+16*k+200<cLine
theorem zaE.mono {j k:Nat}{A:Around}(r:zaE k A)(h:j≤k):zaE j A:=⟨r.hd,by have:=r.dp; omega,by have:=r.un; omega⟩
theorem zaE.deeper {k:Nat}{A:Around}(r:zaE (k+1) A)(env:Env):zaE k (A.deeper env):=
 ⟨r.hd,by have:=r.dp; show A.depth+1+3*k+5<_; omega,by have:=r.un; show A.units+3+16*k+200<_; omega⟩
theorem zaE.in1 {k:Nat}{A:Around}(r:zaE (k+1) A):zaE k A.in1:=
 ⟨r.hd,by have:=r.dp; show A.depth+3*k+5<_; omega,by have:=r.un; show A.units+1+16*k+200<_; omega⟩
theorem zrC {A:Around}{C:Addr}{us:List Value}{kw:List (Str×Value)}:(A.under (.builtin "type.__call__" ⟨.ref C::us,kw⟩)).depth=A.depth+1:=by
 first | rfl | simp[Around.under,Code.weight,Code.isCreation,Code.isGuard,Code.isCaller,Code.frames,Code.isFrame,guardIds]
theorem zrl {A:Around}{C:Addr}{us:List Value}{kw:List (Str×Value)}:(A.under (.builtin "type.__call__" ⟨.ref C::us,kw⟩)).units=A.units+1:=by
 first | rfl | simp[Around.under,Code.cUnits,Code.frames,Code.isFrame]
theorem zaE.make {k:Nat}{A:Around}(r:zaE (k+1) A)(C:Addr)(us:List Value)(kw:List (Str×Value)):zaE k (A.under (.builtin "type.__call__" ⟨.ref C::us,kw⟩)):=
 ⟨r.hd,by have:=r.dp; rw[zrC]; omega,by have:=r.un; rw[zrl]; omega⟩
theorem zaE.depth {k:Nat}{A:Around}(r:zaE k A):A.depth<recursionLimit:=by have:=r.dp; omega
theorem zaE.units {k:Nat}{A:Around}(r:zaE k A):A.units+64<cLine:=by have:=r.un; omega
def tNil:TA:=λ_ H Q=>Q [] H
def tCons (ta:TE)(tr:TA):TA:=λσ H Q=>ta σ H λx H1=>tr σ H1 λxs H2=>Q (x::xs) H2
section
variable {X:Cx}{e:Expr}{es:List Expr}{te:TE}{t:TA}{pos:Pos}
theorem zgH:PA X [] tNil:=λ_ _ _ _ H Q I h=>Calls.spliced_nil ⟨[],H,I,.nil,h⟩
theorem zd0 (ha:PE X e te)(hr:PA X es t)(hs:starEach (e::es) X.env=(false,eval e X.env)::starEach es X.env:=by rfl):PA X (e::es) (tCons te t):=by
 intro pos pins s σ H Q I h
 rw[hs]
 show wpAny _ _ (spliced ((false,eval e X.env)::backTo pos (starEach es X.env))) _ _ s
 refine Calls.spliced_cons (thn (ha pins s σ H _ I h) λu s1 ⟨x,H1,I1,r1,q1⟩=>?_)
 exact thn (hr pos pins s1 σ H1 _ I1 q1) λus s2 ⟨xs,H2,I2,r2,q2⟩=>⟨x::xs,H2,I2,.cons r1 r2,q2⟩
def tTup (t:TA):TE:=λσ H Q=>t σ H λxs H1=>xs.length≤sizeLine∧∀p,H1 p=none→Q (.ref p) (upd H1 p (.tup xs))
def tLst (t:TA):TE:=λσ H Q=>t σ H λxs H1=>xs.length≤sizeLine∧∀p,H1 p=none→Q (.ref p) (upd H1 p (.lst xs))
theorem zqL {x1}(h:PA X es t):PE X (.Tuple es x1 pos) (tTup t):=by
 intro pins s σ H Q I hq
 refine wpAny_Tuple_spliced (thn (h pos pins s σ H _ I hq) λus s1 ⟨xs,H1,I1,r,z,q⟩=>⟨by rw[← r.length]; exact z,?_⟩)
 have hf:H1 s1.heap.objs.size=none:=I1.hok.fresh (Vaa _)
 refine⟨.ref s1.heap.objs.size,upd H1 s1.heap.objs.size (.tup xs),I1.laid (t':=s1.toks) (λb u e=>Heap.get?_push_of_some _ e) (Vaa _) ?_,rfl,q _ hf⟩
 exact⟨z,us,r,⟨_,Heap.get?_push_size _ rfl,rfl,_,rfl⟩⟩
theorem zon (h:PA X es t):PE X (.List es pos) (tLst t):=by
 intro pins s σ H Q I hq
 refine wpAny_List_spliced (thn (h pos pins s σ H _ I hq) λus s1 ⟨xs,H1,I1,r,z,q⟩=>⟨by rw[← r.length]; exact z,?_⟩)
 have hf:H1 s1.heap.objs.size=none:=I1.hok.fresh (Vaa _)
 refine⟨.ref s1.heap.objs.size,upd H1 s1.heap.objs.size (.lst xs),I1.laid (t':=s1.toks) (λb u e=>Heap.get?_push_of_some _ e) (Vaa _) ?_,rfl,q _ hf⟩
 exact⟨z,us,0,r,Heap.get?_push_size _ rfl⟩
end
abbrev Sp:=List V→Hp→VK→XK→Prop
abbrev CXT:=List Env→Hp→Shared→XK→Value→Shared→Prop
structure zcc (P:Program)(w:World)(K:PySem.W.Frag)(mg:Str→Option Value)(base:Heap)(A:Around)(outer:List Env)(s:Shared)(H:Hp):Prop where
 frames:A.frames=some outer
 mod:Mod K mg base
 bs:∀b o,base.get? b=some o→s.heap.get? b=some o∧H b=none
 bsz:base.objs.size≤s.heap.objs.size
 funs:s.heap.FunFrames base outer
 frf:∀b∈frs outer,H b=none
 hok:HOk P w H s.heap
 bare:AllBare s.gens
def CE (outer:List Env)(P:Program)(w:World)(H:Hp)(s:Shared)(Q:VK)(u:Value)(s':Shared):Prop:=
 ∃v H',s'.os=s.os∧AllBare s'.gens∧Un (frs outer) [] H H' s.heap s'.heap∧HOk P w H' s'.heap∧zax v u∧Q v H'
def CR (CX:CXT)(outer:List Env)(P:Program)(w:World)(H:Hp)(s:Shared)(Q:VK)(E:XK)(r:Result)(s':Shared):Prop:=
 match r with
 | .ok (.ret u)=>CE outer P w H s Q u s'
 | .ok _=>False
 | .error e=>CX outer H s E e s'
structure zaZ (P:Program)(w:World)(K:PySem.W.Frag)(mg:Str→Option Value)(base:Heap)(CX:CXT)(k:Nat)(f:Addr)(fd:FuncData)(ps:List Str)(sp:Sp):Prop where
 len:∀vs H Q E,sp vs H Q E→vs.length=ps.length
 run:∀(A:Around) (outer:List Env) (s:Shared) (H:Hp) (args:Args) (us:List Value) (vs:List V) (Q:VK) (E:XK),zaE k A→zcc P w K mg base A outer s H→BindsTo s fd args (ps.zip us)→zaw vs us→sp vs H Q E→
  codeAny (model P w) A (.call (.ref f) args) (CR CX outer P w H s Q E) s
theorem zaZ.mono {P:Program}{w:World}{K:PySem.W.Frag}{mg:Str→Option Value}{base:Heap}{CX:CXT}{j k:Nat}{f:Addr}{fd:FuncData}{ps:List Str}{sp:Sp}(F:zaZ P w K mg base CX j f fd ps sp)(h:j≤k):
  zaZ P w K mg base CX k f fd ps sp:=⟨F.len,λA outer s H args us vs Q E hr=>F.run A outer s H args us vs Q E (hr.mono h)⟩
theorem zaZ.imp {P:Program}{w:World}{K:PySem.W.Frag}{mg:Str→Option Value}{base:Heap}{CX:CXT}{k:Nat}{f:Addr}{fd:FuncData}{ps:List Str}{sp sp':Sp}(F:zaZ P w K mg base CX k f fd ps sp)
  (h:∀vs H Q E,sp' vs H Q E→sp vs H Q E):zaZ P w K mg base CX k f fd ps sp':=
 ⟨λvs H Q E q=>F.len vs H Q E (h _ _ _ _ q),λA outer s H args us vs Q E hr he hb hv hs=>F.run A outer s H args us vs Q E hr he hb hv (h _ _ _ _ hs)⟩
theorem zcc.make {P:Program}{w:World}{K:PySem.W.Frag}{mg:Str→Option Value}{base:Heap}{A:Around}{outer:List Env}{s:Shared}{H:Hp}(e:zcc P w K mg base A outer s H)(C:Addr)(us:List Value)(kw:List (Str×Value)):
  zcc P w K mg base (A.under (.builtin "type.__call__" ⟨.ref C::us,kw⟩)) outer s H:=⟨by first | exact e.frames | (simpa [Around.under,Code.envs,Code.isFrame,pushEnvs] using e.frames),e.mod,e.bs,e.bsz,e.funs,e.frf,e.hok,e.bare⟩
theorem zcc.in1 {P:Program}{w:World}{K:PySem.W.Frag}{mg:Str→Option Value}{base:Heap}{A:Around}{outer:List Env}{s:Shared}{H:Hp}(e:zcc P w K mg base A outer s H):
  zcc P w K mg base A.in1 outer s H:=⟨e.frames,e.mod,e.bs,e.bsz,e.funs,e.frf,e.hok,e.bare⟩
section
variable {X:Cx}{pins:List (Addr×Obj)}{σ:St}{H:Hp}{s s':Shared}
theorem Inv.env0 (I:Inv X pins σ H s):zcc X.prog X.w X.K X.mg X.base X.A X.stack s H:=
 ⟨I.ok.frames,I.ok.mod,I.bs,Vas I.ok.bsz I.sz,I.stack,I.stkFree,I.hok,I.bare⟩
theorem Inv.after {Q:VK}{u:Value}(I:Inv X pins σ H s)(h:CE X.stack X.prog X.w H s Q u s'):EP X pins σ Q u s':=by
 obtain⟨v,H',os,bare,un,hok,r,q⟩:=h
 obtain⟨hh,g,d,t,os'⟩:=s'
 obtain rfl:os'=s.os:=os
 exact⟨v,H',I.call (h':=hh) (g':=g) (d':=d) (t':=t) (ch:=[]) un hok bare (λb z=>absurd z (by simp)),r,q⟩
end
def tMake (C:Addr)(sp:Sp)(dvs:List V)(E:XK)(t:TA):TE:=λσ H Q=>t σ H λvs H1=>∀x dx,H1 x=none→H1 dx=none→dx≠x→
 sp (.ref x::(vs++dvs)) (upd (upd H1 dx (.own x)) x (.ins C dx [])) (λv H2=>v=.non∧Q (.ref x) H2) E
def zbi (K:PySem.W.Frag)(fd:FuncData)(ps:List Str)(ds:List Value):Prop:=
 ∀(s:Shared) (us:List Value),K.In s.heap→(us++ds).length=ps.length→BindsTo s fd ⟨us,[]⟩ (ps.zip (us++ds))
theorem zbi.all {K:PySem.W.Frag}{fd:FuncData}{ps:List Str}(h:∀us:List Value,us.length=ps.length→bindArgs fd ⟨us,[]⟩=pure (ps.zip us)):zbi K fd ps []:=λs us _ hl=>by
 rw[VaJ] at hl ⊢
 exact .of_eq (h us hl)
def ziW (CX:CXT)(X:Cx)(E:XK):Prop:=∀(pins:List (Addr×Obj)) (σ:St) (H:Hp) (s:Shared) (e:Value) (s':Shared),Inv X pins σ H s→CX X.stack H s E e s'→X.xe e s'
section
variable {X:Cx}{CX:CXT}{k:Nat}{f C:Addr}{fd:FuncData}{ps:List Str}{sp:Sp}{dvs:List V}{ds:List Value}{E:XK}{x m:Str}{p pos apos:Pos}{e o:Expr}{es:List Expr}{ta:TE}{t:TA}
structure Mk (K:PySem.W.Frag)(C f:Addr):Prop where
 makes:PySem.W.makesIn K C=true
 init:PySem.W.findIn K (.ref C) "__init__"=some (some (.ref f))
 fn:PySem.W.isFn K (.ref f)=true
 kp:PySem.W.keepIn K (.ref C)=true
theorem zpR {pins:List (Addr×Obj)}{σ:St}{H:Hp}{s:Shared}{Q:VK}{us:List Value}{vs:List V}(M:Mk X.K C f)(F:zaZ X.prog X.w X.K X.mg X.base CX k f fd ps sp)(hr:zaE (k+1) X.A)(hb:zbi X.K fd ps ds)(hd:zaw dvs ds)
  (hx:ziW CX X E)(I:Inv X pins σ H s)(r:zaw vs us)
  (h:∀x dx,H x=none→H dx=none→dx≠x→sp (.ref x::(vs++dvs)) (upd (upd H dx (.own x)) x (.ins C dx [])) (λv H2=>v=.non∧Q (.ref x) H2) E):
  wpAny (model X.prog X.w) X.A (call (.ref C) us) (EP X pins σ Q) X.xe s:=by
 have hq:=h (s.heap.objs.size+1) s.heap.objs.size (I.hok.fresh (Nat.le_succ _)) (I.hok.fresh (Vaa _)) (Vaq (Nat.lt_succ_self _))
 have I2:=Inv.made (C:=C) I
 have r2:zaw (V.ref (s.heap.objs.size+1)::(vs++dvs)) (Value.ref (s.heap.objs.size+1)::(us++ds)):=.cons rfl (r.append hd)
 have hl:(Value.ref (s.heap.objs.size+1)::us++ds).length=ps.length:=by
  have e:=r2.length
  rw[F.len _ _ _ _ hq] at e
  exact e.symm
 refine wpAny_call (zoj (f:=f) I.kIn M.makes M.init (beq_iff_eq.mp M.fn) (codeAny_mono (F.run _ X.stack _ _ ⟨Value.ref (s.heap.objs.size+1)::us,[]⟩ (Value.ref (s.heap.objs.size+1)::(us++ds)) _ _ E (hr.make C us [])
  (I2.env0.make C us []) (hb _ (Value.ref (s.heap.objs.size+1)::us) I2.kIn hl) r2 hq) λr s' hq'=>?_))
 cases r with
 | error e=>exact hx pins σ _ _ e s' I2 hq'
 | ok fl=>
  cases fl with
  | ret u=>
   obtain⟨v,H',I3,rv,ev,q3⟩:=I2.after hq'
   subst ev
   exact⟨rv,⟨V.ref (s.heap.objs.size+1),H',I3,rfl,q3⟩⟩
  | next=>exact False.elim hq'
  | brk=>exact False.elim hq'
  | cont=>exact False.elim hq'
theorem zpG (M:Mk X.K C f)(F:zaZ X.prog X.w X.K X.mg X.base CX k f fd ps sp)(hr:zaE (k+1) X.A)(hg:Gl X x)(hm:X.mg x=some (.ref C))(hb:zbi X.K fd ps ds)(hd:zaw dvs ds)(hx:ziW CX X E)
  (ha:PA X (e::es) t)(hdb:(x==("__debug__":Str))=false:=by decide)(he:starEach (e::es) X.env=(false,eval e X.env)::starEach es X.env:=by rfl)(hpl:(backTo pos (starEach es X.env)).any (·.1)=false:=by rfl):
  PE X (.Call (.Name x p) (e::es) [] pos) (tMake C sp dvs E t):=by
 intro pins s σ H Q I h
 refine wpAny_Call_Name_kw (zmI I hg hm ?_ hdb)
 refine PySem.W.callWith_K (h₀:=X.base) I.ok.mod.kin M.kp (thn (ha pos pins s σ H _ I h) λus s1 ⟨vs,H1,I1,r,q⟩=>⟨I1.kIn,?_⟩) he hpl
 exact zpR M F hr hb hd hx I1 r q
end
section
variable {X:Cx}{CX:CXT}{k:Nat}{f C:Addr}{fd:FuncData}{ps ks:List Str}{sp:Sp}{E:XK}{x m:Str}{p pos apos kpos:Pos}{e o:Expr}{es:List Expr}{kws:List Keyword}{te ta:TE}{t tk:TA}{nm:Option Str}
structure KBinds (K:PySem.W.Frag)(fd:FuncData)(ps ks:List Str)(g:List Value→List Value→List Value)(gV:List V→List V→List V):Prop where
 to:∀(s:Shared) (us ws:List Value),K.In s.heap→(g us ws).length=ps.length→BindsTo s fd ⟨us,ks.zip ws⟩ (ps.zip (g us ws))
 rel:∀ {vs:List V} {us:List Value} {zs:List V} {ws:List Value},zaw vs us→zaw zs ws→zaw (gV vs zs) (g us ws)
variable {g:List Value→List Value→List Value}{gV:List V→List V→List V}
end
structure zaz (N P:List Str)(sc:Scope):Prop where
 kind:sc.kind=.function
 co:sc.isCoroutine=false
 gen:sc.isGenerator=false
 nd:N.Nodup
 pre:N.take P.length=P
 par:∀x∈P,sc.names.lookup x=some .local∨sc.names.lookup x=some .cell
 nofree:∀y∈sc.names,y.2≠.free
theorem zm6 {kindOf:Str→Option NameKind}{x:Str}:∀ {binds:List (Str×Value)} {m:Str→Option Value},(∀v,(x,v) ∉ binds)→bindL kindOf binds m x=m x
 | [],_,_=>rfl
 | (n,v)::r,m,h=>by
  unfold bindL
  rw[zm6 λw hw=>h w (Vaz _ hw)]
  split
  ·have:x≠n:=by rintro rfl; exact h v VaT
   simp[this]
  ·rfl
theorem zlY {kindOf:Str→Option NameKind}{x:Str}:∀ {binds:List (Str×Value)} {m:Str→Option Value},(∀v,(x,v) ∉ binds)→bindC kindOf binds m x=m x
 | [],_,_=>rfl
 | (n,v)::r,m,h=>by
  unfold bindC
  rw[zlY λw hw=>h w (Vaz _ hw)]
  split
  ·rfl
  ·have:x≠n:=by rintro rfl; exact h v VaT
   simp[this]
theorem zme {kindOf:Str→Option NameKind}{x:Str}{v:Value}:∀ {P:List Str} {vs:List Value} {i:Nat} {m:Str→Option Value},P.Nodup→P[i]?=some x→vs[i]?=some v→kindOf x=some .local→
  bindL kindOf (P.zip vs) m x=some v
 | [],_,_,_,_,h,_,_=>by simp at h
 | _::_,[],_,_,_,_,h,_=>by simp at h
 | p::P,w::vs,0,m,nd,h1,h2,hk=>by
  simp at h1 h2; subst h1; subst h2
  show bindL kindOf ((p,w)::P.zip vs) m p=_
  unfold bindL
  rw[zm6 λv hv=>(List.nodup_cons.mp nd).1 (List.of_mem_zip hv).1,if_pos hk]
  simp
 | p::P,w::vs,i+1,m,nd,h1,h2,hk=>by
  show bindL kindOf ((p,w)::P.zip vs) m x=_
  unfold bindL
  exact zme (i:=i) (List.nodup_cons.mp nd).2 (by simpa using h1) (by simpa using h2) hk
theorem zlV {kindOf:Str→Option NameKind}{x:Str}{v:Value}:∀ {P:List Str} {vs:List Value} {i:Nat} {m:Str→Option Value},P.Nodup→P[i]?=some x→vs[i]?=some v→kindOf x≠some .local→
  bindC kindOf (P.zip vs) m x=some v
 | [],_,_,_,_,h,_,_=>by simp at h
 | _::_,[],_,_,_,_,h,_=>by simp at h
 | p::P,w::vs,0,m,nd,h1,h2,hk=>by
  simp at h1 h2; subst h1; subst h2
  show bindC kindOf ((p,w)::P.zip vs) m p=_
  unfold bindC
  rw[zlY λv hv=>(List.nodup_cons.mp nd).1 (List.of_mem_zip hv).1,if_neg hk]
  simp
 | p::P,w::vs,i+1,m,nd,h1,h2,hk=>by
  show bindC kindOf ((p,w)::P.zip vs) m x=_
  unfold bindC
  exact zlV (i:=i) (List.nodup_cons.mp nd).2 (by simpa using h1) (by simpa using h2) hk
def zce (N:List Str)(vs:List V):St:=vs.map some++List.replicate (N.length-vs.length) none
def zdI (CX:CXT)(P:Program)(w:World)(K:PySem.W.Frag)(mg:Str→Option Value)(base:Heap)(N:List Str)(qual:Str)(scope:Scope)(f:Addr)(cd:Value)(A:Around)(outer:List Env)(s:Shared)(H:Hp)(E:XK):Cx where
 prog:=P
 w:=w
 K:=K
 mg:=mg
 base:=base
 A:=A.deeper (envOfC qual scope s.heap.objs.size f cd)
 N:=N
 s₀:=s
 H₀:=H
 env:=envOfC qual scope s.heap.objs.size f cd
 outer:=outer
 stack:=envOfC qual scope s.heap.objs.size f cd::outer
 ex:=[]
 calm:=true
 fn:=λ_=>true
 pn:=[]
 xe:=λe s'=>wpAny (model P w) (A.deeper (envOfC qual scope s.heap.objs.size f cd)) (leaving (envOfC qual scope s.heap.objs.size f cd) e) (λ_ s''=>CX outer H s E e s'') (λe' s''=>CX outer H s E e' s'') s'
theorem zlX {sc:Scope}{n:Nat}{x:Str}(h:sc.names.lookup x=some .cell):∃c,(cellsFrom n sc.names []).lookup x=some c:=by
 have q:=PySem.W.cellsFrom_some sc.names n [] (.inl h)
 exact Option.isSome_iff_exists.mp q
theorem zog {CX:CXT}{P:Program}{w:World}{K:PySem.W.Frag}{mg:Str→Option Value}{base:Heap}{N ps:List Str}{qual:Str}{scope:Scope}{f:Addr}{cd:Value}{A:Around}{outer:List Env}{s s1:Shared}{H:Hp}{E:XK}{us:List Value}{vs:List V}
  (S:zaz N ps scope)(hd:A.handled=none)(e0:zcc P w K mg base A outer s H)(hl:vs.length=ps.length)(r:zaw vs us)
  (x:InCallC s s.heap.objs.size (bindL (envOfC qual scope s.heap.objs.size f cd).kindOf (ps.zip us) λ_=>none) (cellsFrom (s.heap.objs.size+1) scope.names []) (bindC (envOfC qual scope s.heap.objs.size f cd).kindOf (ps.zip us) λ_=>none) s1):
  Inv (zdI CX P w K mg base N qual scope f cd A outer s H E) [] (zce N vs) H s1:=by
 have hpl:ps.length≤N.length:=by have:=congrArg List.length S.pre; rw[VaQ] at this; omega
 obtain⟨h1,tk,rfl,hk⟩:=x.done
 have noA:∀b:Addr,b ∉ (zdI CX P w K mg base N qual scope f cd A outer s H E).ex:=λb z=>absurd (show b∈([]:List Addr) from z) (by simp)
 refine⟨⟨e0.mod,S.kind,rfl,rfl,Vaa _,λy z c h1 h2=>?_,λy hy=>?_,λy c _ h=>?_,λ_=>hd,Around.frames_deeper e0.frames,.inr ⟨rfl,rfl⟩,λb z=>absurd z (noA b),e0.bs,e0.bsz,λb _ _=>noA b,λb z=>absurd z (noA b),e0.funs,e0.frf⟩,
  rfl,e0.bare,Un.kept hk,⟨_,x.toInCall.ns,λi y v h1 h2 h3=>?_⟩,λy c h=>⟨_,x.cell y c h⟩,e0.hok.fresh (Vaa _),λy c h=>?_,λp hp=>absurd (show p∈([]:List (Addr×Obj)) from hp) (by simp),e0.hok.kept hk,?_⟩
 ·exact name_of_addr x.apart (PySem.mem_of_lookup h1) (PySem.mem_of_lookup h2)
 ·have hy:scope.names.lookup y=some .cell∨scope.names.lookup y=some .free:=hy
  rcases hy with hy | hy
  ·exact zlX hy
  ·exact absurd rfl (S.nofree _ (PySem.mem_of_lookup hy))
 ·exact VaN (x.above y c (PySem.mem_of_lookup h))
 ·have hi:i<vs.length:=by
   unfold zce at h2
   by_cases hi:i<vs.length
   ·exact hi
   ·rw[VaV (by simpa using hi)] at h2
    rw[List.getElem?_replicate] at h2
    split at h2 <;> cases h2
  have ha:vs[i]?=some v:=by
   unfold zce at h2
   rw[Var (by simpa using hi),Vah] at h2
   cases e:vs[i]? with
   | none=>rw[e] at h2; cases h2
   | some a=>rw[e] at h2; cases h2; rfl
  obtain⟨u,hu,rv⟩:=r.get ha
  have hp:ps[i]?=some y:=by
   rw[← S.pre,List.getElem?_take_of_lt (by omega)]; exact h1
  have ndP:ps.Nodup:=by rw[← S.pre]; exact S.nd.sublist (List.take_sublist _ _)
  refine⟨u,rv,?_⟩
  rcases S.par y (Vat hp) with k | k
  ·exact .inl ⟨k,zme ndP hp hu k⟩
  ·obtain⟨c,e⟩:=zlX (n:=s.heap.objs.size+1) k
   refine .inr ⟨.inl k,c,e,?_⟩
   have q:=x.cell y c e
   rw[zlV ndP hp hu (by show scope.names.lookup y≠_; rw[k]; decide)] at q
   exact q
 ·exact e0.hok.fresh (VaN (x.above y c (PySem.mem_of_lookup h)))
 ·unfold zce
  show _=N.length
  rw[VaD,Vab,List.length_replicate]
  omega
theorem zmA {CX:CXT}{P:Program}{w:World}{K:PySem.W.Frag}{mg:Str→Option Value}{base:Heap}{k:Nat}{f:Addr}{name qual:Str}{params:Arguments}{body:List Stmt}{scope:Scope}{dV kV doc pm cdv ct oc:Value}{an od:Option Addr}
  {osl:Array (Option Value)}{N ps:List Str}{sp:Sp}(lk:K.lookup f=some ⟨oc,od,.func (PySem.W.fnOf name qual params body scope dV kV doc pm an cdv ct),osl⟩)(hcd:PySem.W.codeIn K cdv qual=true)(S:zaz N ps scope)
  (len:∀vs H Q E,sp vs H Q E→vs.length=ps.length)
  (hbody:∀(A:Around) (outer:List Env) (s:Shared) (H:Hp) (vs:List V) (Q:VK) (E:XK),zaE k (A.deeper (envOfC qual scope s.heap.objs.size f cdv))→sp vs H Q E→
   ∃t,PSs (zdI CX P w K mg base N qual scope f cdv A outer s H E) body t∧t { nx:=λ_ H'=>Q .non H',rt:=Q } (zce N vs) H):
  zaZ P w K mg base CX (k+1) f (PySem.W.fnOf name qual params body scope dV kV doc pm an cdv ct) ps sp:=by
 refine⟨len,λA outer s H args us vs Q E hr e0 hb r hsp=>?_⟩
 have hl:=len _ _ _ _ hsp
 have KX:K.In s.heap:=e0.mod.kin.keeps λb o e=>(e0.bs b o e).1
 have lim:s.heap.NoLimit:=e0.mod.nolimit.keeps λb o e=>(e0.bs b o e).1
 have hkind:∀y∈ps.zip us,scope.names.lookup y.1=some .local∨(scope.names.lookup y.1=some .cell∧((cellsFrom (s.heap.objs.size+1) scope.names []).lookup y.1).isSome=true):=λ⟨n,v⟩ hy=>by
  rcases S.par n (List.of_mem_zip hy).1 with q | q
  ·exact .inl q
  ·exact .inr ⟨q,PySem.W.cellsFrom_some _ _ _ (.inl q)⟩
 refine codeAny_call_function hr.depth (KX _ _ lk) rfl S.co S.gen rfl (PySem.W.codeRec_of KX hcd) (hb _ _ _ _ ?_)
 refine wpAny_newFunctionEnv_cells S.kind hkind λenv he s1 x=>?_
 subst he
 refine⟨lim.keeps x.toInCall.keep,codeAny_func ?_⟩
 obtain⟨t,ht,hq⟩:=hbody A outer s H vs Q E (hr.deeper _) hsp
 have I:Inv (zdI CX P w K mg base N qual scope f cdv A outer s H E) [] (zce N vs) H s1:=zog S hr.hd e0 hl r x
 refine wpAny_mono (ht [] s1 (zce N vs) H _ I hq) (λfl s' hs=>?_) λe s' hs=>hs
 have fin:∀ {σ':St} {H':Hp} {v:V} {u:Value},Inv (zdI CX P w K mg base N qual scope f cdv A outer s H E) [] σ' H' s'→zax v u→Q v H'→CE outer P w H s Q u s':=
  λ{σ' H' v u} J rv q=>⟨v,H',J.os,J.bare,J.base,J.hok,rv,q⟩
 cases fl with
 | ret u=>
  obtain⟨v,σ',H',J,rv,q⟩:=hs
  exact fin J rv q
 | next=>
  obtain⟨σ',H',J,q⟩:=hs
  exact fin (v:=V.non) (u:=Value.none) J rfl q
 | brk=>
  obtain⟨_,_,_,q⟩:=hs
  exact False.elim q
 | cont=>
  obtain⟨_,_,_,q⟩:=hs
  exact False.elim q
end L2
namespace L2
open PySem PySem.Spec PyProof.Rows
section
variable {X:Cx}{x:Str}{p pos:Pos}{e:Expr}{es:List Expr}{t:TA}{id T:String}{r:List V→Hp→VK→Prop}
def tCB (r:List V→Hp→VK→Prop)(t:TA):TE:=λσ H Q=>t σ H λvs H1=>r vs H1 Q
theorem zlN (hc:za7 X (.builtin id) r)(hg:Gl X x)(hm:X.mg x=none)(hv:bootBuiltins x=some (.builtin id))(ha:PA X (e::es) t)(hn:x≠"__name__":=by decide)(hdb:(x==("__debug__":Str))=false:=by decide)
  (he:starEach (e::es) X.env=(false,eval e X.env)::starEach es X.env:=by rfl)(hpl:(backTo pos (starEach es X.env)).any (·.1)=false:=by rfl):PE X (.Call (.Name x p) (e::es) [] pos) (tCB r t):=by
 intro pins s σ H Q I h
 refine wpAny_Call_Name_kw (zjP I hg hm hv ?_ hn hdb)
 exact PyProof.Rows.callWith_builtin1 (thn (ha pos pins s σ H _ I h) λus s1 ⟨vs,H1,I1,r1,q1⟩=>hc pins s1 σ H1 vs us Q I1 r1 q1) he hpl
theorem zq9 (hc:za7 X (.type T) r)(hg:Gl X x)(hm:X.mg x=none)(hv:bootBuiltins x=some (.type T))(ha:PA X (e::es) t)(hn:x≠"__name__":=by decide)(hdb:(x==("__debug__":Str))=false:=by decide)
  (he:starEach (e::es) X.env=(false,eval e X.env)::starEach es X.env:=by rfl)(hpl:(backTo pos (starEach es X.env)).any (·.1)=false:=by rfl):PE X (.Call (.Name x p) (e::es) [] pos) (tCB r t):=by
 intro pins s σ H Q I h
 refine wpAny_Call_Name_kw (zjP I hg hm hv ?_ hn hdb)
 exact PyProof.Rows.callWith_type1 (thn (ha pos pins s σ H _ I h) λus s1 ⟨vs,H1,I1,r1,q1⟩=>hc pins s1 σ H1 vs us Q I1 r1 q1) he hpl
end
end L2
namespace HT
open PySem PyProof.Rows
section
open PySem.SeqAt
open PySem.AutoSeq1 (wpAny_loadPart')
open PySem.MeetsSeq PySem.MeetsSeq2 PySem.MeetsSeq3
end
section
variable {prog:Program}{w:World}{A:Around}{E:Value→Shared→Prop}{s:Shared}
def sIx (n d:Nat):Option Int→Nat
 | none=>d
 | some v=>if v<0 then (v+(n:Int)).toNat else min v.toNat n
end
end HT
namespace L2
open PySem PySem.Spec PyProof.Rows
abbrev TO:=St→Hp→(Option Int→Hp→Prop)→Prop
def PO (X:Cx)(e:Option Expr)(t:TO):Prop:=
 ∀(pins:List (Addr×Obj)) (s:Shared) (σ:St) (H:Hp) (Q:Option Int→Hp→Prop),Inv X pins σ H s→t σ H Q→
  wpAny (model X.prog X.w) X.A (evalPart e X.env) (λu s'=>∃o H',Inv X pins σ H' s'∧IsPart u o∧Q o H') X.xe s
def tPart (t:TE):TO:=λσ H Q=>t σ H λx H1=>∃i,x=.int i∧Q (some i) H1
section
variable {X:Cx}{e:Expr}{te:TE}{lo hi:Option Expr}{tl th:TO}{pos p2:Pos}
theorem zpj (h:PE X e te):PO X (some e) (tPart te):=by
 intro pins s σ H Q I hw
 rw[evalPart_some]
 refine thn (h pins s σ H _ I hw) λu s1 ⟨x,H1,I1,r1,q1⟩=>?_
 obtain⟨i,rfl,q⟩:=q1
 obtain⟨t,rfl⟩:=r1
 exact⟨some i,H1,I1,.int i t,q⟩
def SlR (X:Cx)(r:V→Option Int→Option Int→Hp→VK→Prop):Prop:=
 ∀(pins:List (Addr×Obj)) (s:Shared) (σ:St) (H:Hp) (x:V) (v vl vu:Value) (lo hi:Option Int) (sl:Addr) (Q:VK),Inv X pins σ H s→zax x v→s.heap.IsSliceOf sl vl vu .none→IsPart vl lo→IsPart vu hi→r x lo hi H Q→
  ∃T id,typeLookup (.type T) "__getitem__"=pure (some (.builtin id))∧s.TypeIs v T∧wpAny (model X.prog X.w) X.A (getItem v (.ref sl)) (EP X pins σ Q) X.xe s
theorem SlR.or {r r':V→Option Int→Option Int→Hp→VK→Prop}(h:SlR X r)(h':SlR X r'):SlR X (λx lo hi H Q=>r x lo hi H Q∨r' x lo hi H Q):=by
 intro pins s σ H x v vl vu lo hi sl Q I rx hs pl pu q
 rcases q with q | q
 ·exact h pins s σ H x v vl vu lo hi sl Q I rx hs pl pu q
 ·exact h' pins s σ H x v vl vu lo hi sl Q I rx hs pl pu q
def tSl (r:V→Option Int→Option Int→Hp→VK→Prop)(te:TE)(tl th:TO):TE:=λσ H Q=>te σ H λx H1=>tl σ H1 λl H2=>th σ H2 λu H3=>r x l u H3 Q
theorem zqG {r:V→Option Int→Option Int→Hp→VK→Prop}(hr:SlR X r)(he:PE X e te)(hl:PO X lo tl)(hu:PO X hi th):PE X (.Subscript e (.Slice lo hi none p2) pos) (tSl r te tl th):=by
 intro pins s σ H Q I h
 refine Subscript_ (thn (he pins s σ H _ I h) λv s1 ⟨x,H1,I1,r1,q1⟩=>?_)
 refine wpAny_Slice (thn (hl pins s1 σ H1 _ I1 q1) λvl s2 ⟨l,H2,I2,pl,q2⟩=>thn (hu pins s2 σ H2 _ I2 q2) λvu s3 ⟨u,H3,I3,pu,q3⟩=>?_)
 rw[evalPart_none]
 refine wpAny_pure ?_
 have I4:Inv X pins σ H3 { s3 with heap:=s3.heap.push { cls:=.type "slice",data:=.fields #[vl,vu,.none] } }:=I3.kept (t':=s3.toks) λb ob q=>Heap.get?_push_of_some _ q
 obtain⟨T,id,hT,ht,hg⟩:=hr pins { s3 with heap:=s3.heap.push { cls:=.type "slice",data:=.fields #[vl,vu,.none] } } σ H3 x v vl vu l u s3.heap.objs.size Q I4 r1 (Heap.IsSliceOf.new ..) pl pu q3
 show wpAny (model X.prog X.w) X.A (subscriptTail e (.Slice lo hi none p2) v (.ref s3.heap.objs.size)) (EP X pins σ Q) X.xe { s3 with heap:=s3.heap.push { cls:=.type "slice",data:=.fields #[vl,vu,.none] } }
 exact tail_any (ops:=[.ref s3.heap.objs.size,v]) ht hT hg (by with_unfolding_all rfl)
def zdW (xs:List V)(lo hi:Option Int):List V:=(xs.drop (HT.sIx xs.length 0 lo)).take (HT.sIx xs.length xs.length hi-HT.sIx xs.length 0 lo)
theorem zpg (xs:List V)(lo hi:Option Int):(zdW xs lo hi).length≤xs.length:=by
 unfold zdW
 rw[VaQ,List.length_drop]
 omega
end
end L2
namespace L2
open PySem PySem.Spec PyProof.Rows
def ixN (n:Nat)(i:Int):Option Nat:=if 0≤i then (if i<n then some i.toNat else none) else if -(n:Int)≤i then some (i+n).toNat else none
def atI {α:Type}(xs:List α)(i:Int):Option α:=(ixN xs.length i).bind λj=>xs[j]?
theorem zmU {n:Nat}{i:Int}{j:Nat}(h:ixN n i=some j):seqIndex? i n=some j∧j<n∧-(n:Int)≤i∧i<n:=by
 unfold ixN at h
 by_cases h0:0≤i
 ·rw[if_pos h0] at h
  by_cases h1:i<n
  ·rw[if_pos h1] at h
   have e:i.toNat=j:=Option.some.inj h
   exact⟨by rw[seqIndex_of h0 h1,e],by omega,by omega,h1⟩
  ·rw[if_neg h1] at h; cases h
 ·rw[if_neg h0] at h
  by_cases h1:-(n:Int)≤i
  ·rw[if_pos h1] at h
   have e:(i+n).toNat=j:=Option.some.inj h
   exact⟨by rw[seqIndex_neg (by omega) h1,e],by omega,h1,by omega⟩
  ·rw[if_neg h1] at h; cases h
theorem zmB {α:Type}{xs:List α}{i:Int}{v:α}(h:atI xs i=some v):∃j,seqIndex? i xs.length=some j∧xs[j]?=some v∧j<xs.length∧-(xs.length:Int)≤i∧i<xs.length:=by
 unfold atI at h
 cases e:ixN xs.length i with
 | none=>rw[e] at h; cases h
 | some j=>
  rw[e] at h
  obtain⟨h1,h2,h3,h4⟩:=zmU e
  exact⟨j,h1,h,h2,h3,h4⟩
theorem zeh {α:Type}{xs:List α}{j:Nat}{v:α}(h:xs[j]?=some v):atI xs (j:Int)=some v:=by
 have hj:j<xs.length:=(Vad.mp h).1
 have e:ixN xs.length (j:Int)=some j:=by
  unfold ixN
  rw[if_pos (by omega),if_pos (by omega)]; simp
 unfold atI; rw[e]; exact h
def zkV (b:Expr):Prop:=∀o i,subscripted b false o i=operate [o,i] (getItem o i)
def IxR (X:Cx)(r:R2):Prop:=
 ∀(value slice:Expr) (pins:List (Addr×Obj)) (s:Shared) (σ:St) (H:Hp) (x y:V) (v u:Value) (Q:VK),Inv X pins σ H s→zax x v→zax y u→r x y H Q→
  subscripted slice false v u=operate [v,u] (getItem v u)→wpAny (model X.prog X.w) X.A (subscriptTail value slice v u) (EP X pins σ Q) X.xe s
def MtR (X:Cx)(id:String)(r:V→List V→Hp→VK→Prop):Prop:=
 ∀(pins:List (Addr×Obj)) (s:Shared) (σ:St) (H:Hp) (x:V) (xs:List V) (v:Value) (us:List Value) (Q:VK),Inv X pins σ H s→zax x v→zaw xs us→r x xs H Q→
  wpAny (model X.prog X.w) X.A (call (.builtin id) (v::us)) (EP X pins σ Q) X.xe s
section
variable {X:Cx}{a b:Expr}{ta tb:TE}{pos:Pos}
theorem IxR.or {r r':R2}(h:IxR X r)(h':IxR X r'):IxR X (λx y H Q=>r x y H Q∨r' x y H Q):=by
 intro value slice pins s σ H x y v u Q I rx ry q hs
 rcases q with q | q
 ·exact h value slice pins s σ H x y v u Q I rx ry q hs
 ·exact h' value slice pins s σ H x y v u Q I rx ry q hs
theorem MtR.or {id:String}{r r':V→List V→Hp→VK→Prop}(h:MtR X id r)(h':MtR X id r'):MtR X id (λx xs H Q=>r x xs H Q∨r' x xs H Q):=by
 intro pins s σ H x xs v us Q I rx rs q
 rcases q with q | q
 ·exact h pins s σ H x xs v us Q I rx rs q
 ·exact h' pins s σ H x xs v us Q I rx rs q
theorem pe_ix {r:R2}(hr:IxR X r)(ha:PE X a ta)(hb:PE X b tb)(hs:zkV b):PE X (.Subscript a b pos) (tOp r ta tb):=by
 intro pins s σ H Q I h
 exact Subscript_ (binT ha hb I h λv u s2 x y H2 I2 rx ry q=>hr a b pins s2 σ H2 x y v u Q I2 rx ry q (hs _ _))
def rIxL (K:PySem.W.Frag):R2:=λx y H Q=>∃p xs i v,x=.ref p∧y=.int i∧SqL K H p xs∧atI xs i=some v∧Q v H
def rIxT (K:PySem.W.Frag):R2:=λx y H Q=>∃p xs i v,x=.ref p∧y=.int i∧SqT K H p xs∧atI xs i=some v∧Q v H
theorem zok:IxR X (rIxL X.K):=by
 intro value slice pins s σ H x y v u Q I rx ry h hs
 obtain⟨p,xs,i,z,rfl,rfl,hq,he,q⟩:=h
 cases rx
 obtain⟨t,rfl⟩:=ry
 obtain⟨its,r,pl,hz⟩:=I.list hq
 obtain⟨j,h1,h2,h3,h4,h5⟩:=zmB he
 obtain⟨w,ew,rw'⟩:=r.get h2
 have hl:=r.length
 have hn:=ziY
 have fin:EP X pins σ Q w s:=⟨z,H,I,rw',q⟩
 by_cases h0:0≤i
 ·have hj:i.toNat=j:=by
   rw[seqIndex_of h0 h5] at h1
   exact Option.some.inj h1
  exact item_listR pl.isList h0 (by omega) (by rw[hj]; simpa using ew) fin hs
 ·have hj:(i+(its.toArray.size:Int)).toNat=j:=by
   rw[seqIndex_neg (by omega) h4] at h1
   rw[Val,← hl]
   exact Option.some.inj h1
  exact subscriptTail_builtinR (x:=w) pl.isList.typeIs slot_list_getitem.lookup
   (wpAny_getItem_list_neg (Q:=λr s'=>r=w∧EP X pins σ Q r s') pl.isList (by omega) (by rw[Val] <;> omega) (by omega) (by rw[hj]; simpa using ew) ⟨rfl,fin⟩) hs
theorem zp5:IxR X (rIxT X.K):=by
 intro value slice pins s σ H x y v u Q I rx ry h hs
 obtain⟨p,xs,i,z,rfl,rfl,hq,he,q⟩:=h
 cases rx
 obtain⟨t,rfl⟩:=ry
 obtain⟨its,r,pl,hz⟩:=I.tuple hq
 obtain⟨j,h1,h2,h3,h4,h5⟩:=zmB he
 obtain⟨w,ew,rw'⟩:=r.get h2
 have hl:=r.length
 have hn:=ziY
 have fin:EP X pins σ Q w s:=⟨z,H,I,rw',q⟩
 exact subscriptTail_builtinR (x:=w) pl.typeIs slot_tuple_getitem.lookup
  (getItem_tuple (j:=j) (Q:=λr s'=>r=w∧EP X pins σ Q r s') pl (by omega) (by omega) (by rw[Val,← hl]; exact h1) (by simpa using ew) ⟨rfl,fin⟩) hs
theorem zo0 (its:List Value)(n j:Nat)(u:Value):Obj.mapSeq (·.setIfInBounds j u) { cls:=.type "list",data:=.seq its.toArray n }={ cls:=.type "list",data:=.seq (its.set j u).toArray n }:=by
 simp[Obj.mapSeq]
theorem Inv.lst {pins:List (Addr×Obj)}{σ:St}{H:Hp}{s:Shared}{p:Addr}{xs:List V}(I:Inv X pins σ H s)(h:H p=some (.lst xs)):
  ∃(its:List Value) (n:Nat),zaw xs its∧s.heap.get? p=some { cls:=.type "list",data:=.seq its.toArray n }∧xs.length≤sizeLine:=by
 obtain⟨z,its,n,r,e⟩:=I.hok p _ h
 exact⟨its,n,r,e,z⟩
theorem Inv.lstUpd {pins:List (Addr×Obj)}{σ:St}{H:Hp}{s:Shared}{p:Addr}{xs ys:List V}{its its':List Value}{n n':Nat}{f:Obj→Obj}(I:Inv X pins σ H s)(h:H p=some (.lst xs))
  (ho:s.heap.get? p=some { cls:=.type "list",data:=.seq its.toArray n })(hf:f { cls:=.type "list",data:=.seq its.toArray n }={ cls:=.type "list",data:=.seq its'.toArray n' })(r:zaw ys its')(hz:ys.length≤sizeLine)(t:Nat):
  Inv X pins σ (upd H p (.lst ys)) { s with heap:=s.heap.update p f,toks:=t }:=by
 have e:(s.heap.update p f).get? p=some { cls:=.type "list",data:=.seq its'.toArray n' }:=by
  rw[Heap.get?_update_self f ho (by rw[hf] <;> rfl),hf]
 refine I.write (x:=p) (e:=p) (by rw[h]; trivial) (.inl rfl) (λb u hb q=>(Heap.get?_update_other _ _ (Ne.symm hb)).trans q) ⟨_,e⟩ ?_
 exact⟨hz,its',n',r,e⟩
def rSetL:V→V→V→Hp→(Hp→Prop)→Prop:=λo i v H Q=>∃p xs k j,o=.ref p∧i=.int k∧H p=some (.lst xs)∧ixN xs.length k=some j∧Q (upd H p (.lst (xs.set j v)))
theorem zsR:PSet X rSetL:=by
 intro pins s σ H o i v ov iv u Q I ro ri rv h
 obtain⟨p,xs,k,j,rfl,rfl,hp,hj,q⟩:=h
 cases ro
 obtain⟨t,rfl⟩:=ri
 obtain⟨its,n,r,ho,hz⟩:=I.lst hp
 obtain⟨h1,h2,h3,h4⟩:=zmU hj
 have hl:=r.length
 have hn:=ziY
 have I':Inv X pins σ (upd H p (.lst (xs.set j v))) { s with heap:=s.heap.update p (Obj.mapSeq (·.setIfInBounds j u)) }:=
  I.lstUpd hp ho (zo0 its n j u) (r.set rv j) (by rw[Vag]; exact hz) s.toks
 by_cases h0:0≤k
 ·have hk:k.toNat=j:=by
   rw[seqIndex_of h0 h4] at h1
   exact Option.some.inj h1
  exact PySem.W.ki_setAt ho h0 (by omega) (by rw[Val,← hl]; exact h4) (by rw[hk]; exact⟨_,I',q⟩)
 ·have hk:(k+(its.toArray.size:Int)).toNat=j:=by
   rw[seqIndex_neg (by omega) h3] at h1
   rw[Val,← hl]
   exact Option.some.inj h1
  exact PySem.W.ki_setBack ho (by omega) (by rw[Val,← hl]; exact h3) (by omega) (by rw[hk]; exact⟨_,I',q⟩)
theorem zpy (lo hi:Option Int)(n:Nat):(sliceBounds lo hi none n).1=((HT.sIx n 0 lo:Nat):Int)∧(sliceBounds lo hi none n).2.1=((HT.sIx n n hi:Nat):Int)∧(sliceBounds lo hi none n).2.2=1:=by
 refine⟨?_,?_,rfl⟩
 ·cases lo with
  | none=>simp[sliceBounds,HT.sIx]
  | some i=>
   simp only[sliceBounds,HT.sIx,Option.getD_none,show (1:Int) > 0 by decide,if_true]
   by_cases h:i<0
   ·simp only[h,if_true] <;> omega
   ·simp only[h,if_false] <;> omega
 ·cases hi with
  | none=>simp[sliceBounds,HT.sIx]
  | some i=>
   simp only[sliceBounds,HT.sIx,Option.getD_none,show (1:Int) > 0 by decide,if_true]
   by_cases h:i<0
   ·simp only[h,if_true] <;> omega
   ·simp only[h,if_false] <;> omega
theorem znZ (its:List Value)(lo hi:Option Int):slicePick its.toArray lo hi none=((its.drop (HT.sIx its.length 0 lo)).take (HT.sIx its.length its.length hi-HT.sIx its.length 0 lo)).toArray:=by
 obtain⟨h1,h2,h3⟩:=zpy lo hi its.toArray.size
 unfold slicePick
 rw[h1,h2,h3]
 simp only[sliceRange_one,pick_run,Val] <;> rfl
def rSlL (K:PySem.W.Frag):V→Option Int→Option Int→Hp→VK→Prop:=λx lo hi H Q=>∃a xs,x=.ref a∧SqL K H a xs∧∀p,H p=none→Q (.ref p) (upd H p (.lst (zdW xs lo hi)))
theorem zrQ:SlR X (rSlL X.K):=by
 intro pins s σ H x v vl vu lo hi sl Q I rx hs pl pu h
 obtain⟨a,xs,rfl,hx,q⟩:=h
 cases rx
 obtain⟨its,r,ht,hz⟩:=I.list hx
 have hlen:=r.length
 refine⟨"list",_,slot_list_getitem.lookup,ht.isList.typeIs,?_⟩
 refine wpAny_getItem_list_slice ht.isList hs pl pu .none (by simp) ?_ (by rw[Val] <;> omega)
 rw[znZ,← hlen]
 refine⟨.ref s.heap.objs.size,_,I.laid (t':=s.toks) (o:=.lst (zdW xs lo hi)) (λb ob q=>Heap.get?_push_of_some _ q) (Vaa _) ?_,rfl,q _ (I.hok.fresh (Vaa _))⟩
 exact⟨Vas (zpg xs lo hi) hz,_,0,(r.drop (HT.sIx xs.length 0 lo)).take (HT.sIx xs.length xs.length hi-HT.sIx xs.length 0 lo),Heap.get?_push_size _ rfl⟩
def zhU:V→Bool
 | .non=>true
 | .bl _=>true
 | .int _=>true
 | .str _=>true
 | _=>false
def eqV:V→V→Bool
 | .non,.non=>true
 | .bl a,.bl b=>a==b
 | .bl a,.int b=>(if a then 1 else 0)==b
 | .int a,.bl b=>a==(if b then 1 else 0)
 | .int a,.int b=>a==b
 | .str a,.str b=>a==b
 | _,_=>false
theorem znI {A:Around}{s:Shared}{y x:V}{u v:Value}(ry:zax y u)(rx:zax x v)(fy:zhU y=true)(fx:zhU x=true):SeqAt.EqAt A s u v (eqV y x):=by
 cases y with
 | non=>
  cases ry
  cases x with
  | non=>cases rx; exact SeqAt.EqAt.same _
  | bl b=>cases rx; exact SeqAt.EqAt.none_bool b
  | int b=>obtain⟨t,rfl⟩:=rx; exact SeqAt.EqAt.none_int b t
  | str b=>obtain⟨t,rfl⟩:=rx; exact SeqAt.EqAt.none_str b t
  | _=>exact absurd (show false=true from fx) Vaj
 | bl a=>
  cases ry
  cases x with
  | non=>cases rx; exact SeqAt.EqAt.bool_none a
  | bl b=>cases rx; exact SeqAt.EqAt.bool_bool a b
  | int b=>obtain⟨t,rfl⟩:=rx; exact SeqAt.EqAt.bool_int a b t
  | str b=>obtain⟨t,rfl⟩:=rx; exact SeqAt.EqAt.bool_str a b t
  | _=>exact absurd (show false=true from fx) Vaj
 | int a=>
  obtain⟨t',rfl⟩:=ry
  cases x with
  | non=>cases rx; exact SeqAt.EqAt.int_none a t'
  | bl b=>cases rx; exact SeqAt.EqAt.int_bool a t' b
  | int b=>obtain⟨t,rfl⟩:=rx; exact SeqAt.EqAt.int_int a t' b t
  | str b=>obtain⟨t,rfl⟩:=rx; exact SeqAt.EqAt.int_str a t' b t
  | _=>exact absurd (show false=true from fx) Vaj
 | str a=>
  obtain⟨t',rfl⟩:=ry
  cases x with
  | non=>cases rx; exact SeqAt.EqAt.str_none a t'
  | bl b=>cases rx; exact SeqAt.EqAt.str_bool a t' b
  | int b=>obtain⟨t,rfl⟩:=rx; exact SeqAt.EqAt.str_int a t' b t
  | str b=>obtain⟨t,rfl⟩:=rx; exact SeqAt.EqAt.str_str a t' b t
  | _=>exact absurd (show false=true from fx) Vaj
 | _=>exact absurd (show false=true from fy) Vaj
theorem zqE:za7 X (.builtin "len") (λxs H Q=>∃p ys,xs=[.ref p]∧(SqL X.K H p ys∨SqT X.K H p ys)∧Q (.int ys.length) H):=by
 intro pins s σ H xs us Q I r h
 obtain⟨p,ys,rfl,hq,q⟩:=h
 obtain⟨u,rfl,rx⟩:=zf8 r
 cases rx
 have hn:=ziY
 rcases hq with hq | hq
 ·obtain⟨its,r',pl,hz⟩:=I.list hq
  have hlen:=r'.length
  exact Calls.call_len_list pl.isList (by simp only[Val] <;> omega) ⟨.int ys.length,H,I.tok _,⟨s.toks+1,by rw[Val,hlen]⟩,q⟩
 ·obtain⟨its,r',pl,hz⟩:=I.tuple hq
  have hlen:=r'.length
  exact len_tuple pl (by simp only[Val] <;> omega) ⟨.int ys.length,H,I.tok _,⟨s.toks+1,by rw[Val,hlen]⟩,q⟩
theorem za7.or {f:Value}{r r':List V→Hp→VK→Prop}(h:za7 X f r)(h':za7 X f r'):za7 X f (λxs H Q=>r xs H Q∨r' xs H Q):=by
 intro pins s σ H xs us Q I rs q
 rcases q with q | q
 ·exact h pins s σ H xs us Q I rs q
 ·exact h' pins s σ H xs us Q I rs q
theorem zqo:za7 X (.type "list") (λxs H Q=>∃p ys,xs=[.ref p]∧(SqL X.K H p ys∨SqT X.K H p ys)∧∀l,H l=none→Q (.ref l) (upd H l (.lst ys))):=by
 intro pins s σ H xs us Q I r h
 obtain⟨p,ys,rfl,hq,q⟩:=h
 obtain⟨u,rfl,rx⟩:=zf8 r
 cases rx
 have fin:∀(its:List Value),zaw ys its→ys.length≤sizeLine→∀(h':Heap) (c':Nat),(∀b o',s.heap.get? b=some o'→h'.get? b=some o')→
   h'.get? s.heap.objs.size=some { cls:=.type "list",dict:=none,data:=.seq its.toArray c',slots:=#[] }→EP X pins σ Q (.ref s.heap.objs.size) { s with heap:=h' }:=λits r' hz h' c' kp e=>
  ⟨.ref s.heap.objs.size,_,I.laid (t':=s.toks) kp (Vaa _) (show zbc X.prog X.w _ h' _ (.lst ys) from ⟨hz,its,c',r',e⟩),rfl,q _ (I.hok.fresh (Vaa _))⟩
 rcases hq with hq | hq
 ·obtain⟨its,r',pl,hz⟩:=I.list hq
  have hlen:=r'.length
  obtain⟨o,ho,hc,n,hd⟩:=pl.isList
  exact call_list_seq p (.inl rfl) ho hc hd (λh' c' kp e=>fin its r' hz h' c' kp e) (by simp only[Val] <;> omega)
 ·obtain⟨its,r',pl,hz⟩:=I.tuple hq
  have hlen:=r'.length
  obtain⟨o,ho,hc,n,hd⟩:=pl
  exact call_list_seq p (.inr rfl) ho hc hd (λh' c' kp e=>fin its r' hz h' c' kp e) (by simp only[Val] <;> omega)
def tyV (K:PySem.W.Frag)(T:String)(x:V)(H:Hp):Prop:=match x with
 | .str _=>T="str"
 | .int _=>T="int"
 | .ref p=>(T="list"∧∃xs,SqL K H p xs)∨(T="tuple"∧∃o,K.lookup p=some o∧o.cls=.type "tuple"∧o.dict=none)∨
   (T="dict"∧((∃kvs,H p=some (.dK kvs))∨∃kvs,H p=some (.dT kvs)))∨(T="set"∧∃S n,H p=some (.set S n))
 | _=>False
theorem znp {pins:List (Addr×Obj)}{σ:St}{H:Hp}{s:Shared}{T:String}{x:V}{v:Value}(I:Inv X pins σ H s)(r:zax x v)(ty:tyV X.K T x H):
  s.TypeIs v T∧∀a,v=.ref a→∃ob,s.heap.get? a=some ob∧ob.dict=none:=by
 cases x with
 | str z=>
  obtain⟨t,rfl⟩:=r
  cases (show T="str" from ty)
  exact⟨typeIs_str s z t,λ_ e=>nomatch e⟩
 | int i=>
  obtain⟨t,rfl⟩:=r
  cases (show T="int" from ty)
  exact⟨typeIs_int s i t,λ_ e=>nomatch e⟩
 | ref p=>
  cases r
  rcases ty with ⟨rfl,xs,hq⟩ | ⟨rfl,o,hk,hc,hd⟩ | ⟨rfl,hk⟩ | ⟨rfl,S,n,hk⟩
  ·obtain⟨its,_,pl,_⟩:=I.list hq
   refine⟨pl.isList.typeIs,λa e=>?_⟩
   cases e
   obtain⟨o,n,e,c,hd,_⟩:=pl
   exact⟨o,e,hd⟩
  ·refine⟨⟨o,I.kIn p o hk,hc⟩,λa e=>?_⟩
   cases e
   exact⟨o,I.kIn _ o hk,hd⟩
  ·have z:∃o,s.heap.get? p=some o∧o.ExactDict:=by
    rcases hk with ⟨kvs,hk⟩ | ⟨kvs,hk⟩
    ·obtain⟨_,_,_,_,o,_,_,e,ex,_⟩:=I.hok p _ hk
     exact⟨o,e,ex⟩
    ·obtain⟨_,_,_,_,o,_,_,e,ex,_⟩:=I.hok p _ hk
     exact⟨o,e,ex⟩
   obtain⟨o,e,ex⟩:=z
   refine⟨⟨o,e,ex.1⟩,λa e2=>?_⟩
   cases e2
   exact⟨o,e,ex.2.1⟩
  ·obtain⟨o,_,_,_,e,ex,_⟩:=I.hok p _ hk
   refine⟨⟨o,e,ex.1⟩,λa e2=>?_⟩
   cases e2
   exact⟨o,e,ex.2.1⟩
 | _=>exact False.elim ty
def tBM0 (K:PySem.W.Frag)(T:String)(r:V→List V→Hp→VK→Prop)(to:TE):TE:=λσ H Q=>to σ H λx H1=>tyV K T x H1∧r x [] H1 Q
def tBM (K:PySem.W.Frag)(T:String)(r:V→List V→Hp→VK→Prop)(to:TE)(t:TA):TE:=λσ H Q=>to σ H λx H1=>tyV K T x H1∧t σ H1 λxs H2=>r x xs H2 Q
variable {o e:Expr}{es:List Expr}{to:TE}{t:TA}{name:Str}{apos cpos:Pos}{T id:String}{r:V→List V→Hp→VK→Prop}
theorem zr5 (pa:PlainAttrs T)(slot:Slot T name id)(hty:typeOf (.builtin id)=pure (.type "method_descriptor"))(hm:MtR X id r)(ho:PE X o to)
  (hbase:attributeBase o name X.env (eval o X.env)=eval o X.env:=by rfl)(hline:(apos.endLine==cpos.line)=true:=by rfl):PE X (.Call (.Attribute o name apos) [] [] cpos) (tBM0 X.K T r to):=by
 intro pins s σ H Q I h
 refine wpAny_Call_method0_late hbase hline (thn (ho pins s σ H _ I h) λv s1 ⟨x,H1,I1,r1,ty,q1⟩=>?_)
 obtain⟨h1,h2⟩:=znp I1 r1 ty
 exact⟨T,id,pa,slot,hty,h1,h2,Calls.callWith_builtin rfl (PySem.evalArgs_none (hm pins s1 σ H1 x [] v [] Q I1 r1 .nil q1))⟩
theorem pe_bm (pa:PlainAttrs T)(slot:Slot T name id)(hty:typeOf (.builtin id)=pure (.type "method_descriptor"))(hm:MtR X id r)(ho:PE X o to)(ha:PA X (e::es) t)
  (hbase:attributeBase o name X.env (eval o X.env)=eval o X.env:=by rfl)
  (hfew:((backTo cpos (starEach (e::es) X.env)).all (λx=>!x.1)&&(backToKw cpos (keywordEach [] X.env)).all (λx=>x.1.isSome)
  &&decide ((e::es).length+([]:List Keyword).length+(if ([]:List Keyword).isEmpty then 0 else 1)<30))=true:=by rfl)
  (hline:(apos.endLine==cpos.line)=true:=by rfl)(hs:starEach (e::es) X.env=(false,eval e X.env)::starEach es X.env:=by rfl)(hplain:(backTo cpos (starEach es X.env)).any (·.1)=false:=by rfl):
  PE X (.Call (.Attribute o name apos) (e::es) [] cpos) (tBM X.K T r to t):=by
 intro pins s σ H Q I h
 refine wpAny_Call_method_late hbase hfew hline rfl (thn (ho pins s σ H _ I h) λv s1 ⟨x,H1,I1,r1,ty,q1⟩=>?_)
 obtain⟨h1,h2⟩:=znp I1 r1 ty
 refine⟨T,id,pa,slot,hty,h1,h2,?_⟩
 have hA:=ha cpos pins s1 σ H1 _ I1 q1
 rw[hs] at hA ⊢
 refine Calls.callWith_builtin (by show (false||(backTo cpos (starEach es X.env)).any (·.1))=false; rw[hplain] <;> rfl) (Calls.evalArgs_plain ?_)
 exact thn hA λus s2 ⟨vs,H2,I2,r2,q2⟩=>hm pins s2 σ H2 x vs v us Q I2 r1 r2 q2
end
end L2
namespace L2
open PySem PySem.Spec PyProof.Rows
def MtM (X:Cx)(id:String)(r:V→List V→Hp→VK→Prop):Prop:=
 ∀(pins:List (Addr×Obj)) (s:Shared) (σ:St) (H:Hp) (x:V) (xs:List V) (v:Value) (us:List Value) (Q:VK),Inv X pins σ H s→zax x v→zaw xs us→r x xs H Q→
  wpAny (model X.prog X.w) X.A (call (.builtin id) (v::us)) (EP X pins σ Q) X.xe s
theorem zaw.one:∀ {x:V} {us:List Value},zaw [x] us→∃u,us=[u]∧zax x u
 | _,_,.cons r .nil=>⟨_,rfl,r⟩
theorem zaw.two:∀ {x y:V} {us:List Value},zaw [x,y] us→∃u v,us=[u,v]∧zax x u∧zax y v
 | _,_,_,.cons r (.cons q .nil)=>⟨_,_,rfl,r,q⟩
theorem zaw.zero:∀ {us:List Value},zaw [] us→us=[]
 | _,.nil=>rfl
section
variable {X:Cx}{pins:List (Addr×Obj)}{σ:St}{H:Hp}{s:Shared}{l b:Addr}{xs ys zs:List V}
theorem Inv.lset {its its':List Value}{n:Nat}{f:Array Value→Array Value}{t':Nat}(I:Inv X pins σ H s)(hH:H l=some (.lst xs))
  (e:s.heap.get? l=some { cls:=.type "list",data:=.seq its.toArray n })(hf:f its.toArray=its'.toArray)(hv:zaw ys its')(hz:ys.length≤sizeLine):
  Inv X pins σ (upd H l (.lst ys)) { s with heap:=s.heap.update l (Obj.mapSeq f),toks:=t' }:=by
 have q:=PySem.IsL.update e f
 rw[hf] at q
 refine I.write (x:=l) (e:=l) (by rw[hH]; exact trivial) (.inl rfl) (λb' u hb hu=>(Heap.get?_update_other s.heap (Obj.mapSeq f) (Ne.symm hb)).trans hu) ⟨_,q⟩ ?_
 exact⟨hz,its',_,hv,q⟩
theorem Inv.lnew {its:List Value}{t':Nat}(I:Inv X pins σ H s)(hv:zaw ys its)(hz:ys.length≤sizeLine):
  Inv X pins σ (upd H s.heap.objs.size (.lst ys)) { s with heap:=s.heap.push { cls:=.type "list",data:=.seq its.toArray },toks:=t' }:=
 I.laid (λ_ _ q=>Heap.get?_push_of_some _ q) (Vaa _) ⟨hz,its,0,hv,Heap.get?_push_size _ rfl⟩
theorem Inv.fresh (I:Inv X pins σ H s):H s.heap.objs.size=none:=I.hok.fresh (Vaa _)
theorem Inv.lstM (I:Inv X pins σ H s)(hH:H l=some (.lst xs)):xs.length≤sizeLine∧∃(its:List Value) (n:Nat),zaw xs its∧xs.length=its.length∧s.heap.get? l=some { cls:=.type "list",data:=.seq its.toArray n }:=by
 obtain⟨z,its,n,r,e⟩:=I.hok l _ hH
 exact⟨z,its,n,r,r.length,e⟩
end
section
variable {X:Cx}
def zqj:V→List V→Hp→VK→Prop:=λx vs H Q=>∃l xs y,x=.ref l∧vs=[y]∧H l=some (.lst xs)∧xs.length<sizeLine∧Q .non (upd H l (.lst (xs++[y])))
theorem zl7:MtM X "list.append" zqj:=by
 intro pins s σ H x vs v us Q I rx rv h
 obtain⟨l,xs,y,rfl,rfl,hH,hz,q⟩:=h
 cases rx
 obtain⟨u,rfl,ru⟩:=rv.one
 obtain⟨z,its,n,r,hl,e⟩:=I.lstM hH
 refine call_meets F.slot_list_append ⟨_,e,rfl⟩ F.entry_list_append (F.args_list_append_2 _ _) (PySem.list_append l its.toArray n u (by rw[Val]; omega)) ⟨e,?_⟩
 refine⟨.non,_,I.lset (its':=its++[u]) hH e (by simp) (r.append (.cons ru .nil)) ?_,rfl,q⟩
 rw[VaD,List.length_singleton]
 omega
def rCat:R2:=λx y H Q=>∃l b xs zs,x=.ref l∧y=.ref b∧H l=some (.lst xs)∧H b=some (.lst zs)∧xs.length+zs.length≤sizeLine∧∀p,H p=none→Q (.ref p) (upd H p (.lst (xs++zs)))
theorem zsp:OpR X (binaryOp .Add) rCat:=by
 intro pins s σ H x y v u Q I rx ry h
 obtain⟨l,b,xs,zs,rfl,rfl,hH,hB,hz,q⟩:=h
 cases rx
 cases ry
 obtain⟨z,its,n,r,hl,e⟩:=I.lstM hH
 obtain⟨z2,its2,n2,r2,hl2,e2⟩:=I.lstM hB
 refine PySem.P.add_list e e2 ?_ (by rw[Val,Val]; omega)
 have ea:its.toArray++its2.toArray=(its++its2).toArray:=by simp
 rw[ea]
 exact⟨.ref _,_,I.lnew (t':=s.toks) (r.append r2) (by rw[VaD]; omega),rfl,q _ I.fresh⟩
end
section
variable {prog:Program}{w:World}{A:Around}{E:Value→Shared→Prop}{s:Shared}
set_option maxRecDepth 100000 in
end
section
variable {X:Cx}
end
end L2
namespace Att
open PySem PySem.W PySem.Calls PyProof.Rows
theorem zqA {P:Params}{h:Heap}:∀(ns:List Int) (vs:List Value),WellAll P h vs (ns.map WData.int)→IntsAre vs ns:=by
 intro ns
 induction ns with
 | nil=>
  intro vs w
  rw[List.map_nil] at w
  cases w
  exact .nil
 | cons n ns ih=>
  intro vs w
  rw[Vak] at w
  cases w with
  | cons a b=>
   cases a
   exact .cons _ _ (ih _ b)
theorem zrv {l:OpenLaw}{n:Nat}(hn:l.most=some n){P:Params}{h:Heap}{args:List WData}{vals:List Value}
  (hpre:l.row.toRowW.claim.pre args=true)(hwl:WellAll P h vals args):
  ∃a vs ns,vals=[Value.ref a]∧args=[WData.list (ns.map WData.int)]∧h.get? a=some { cls:=.type "list",data:=.seq vs.toArray }∧IntsAre vs ns∧ns.length≤n:=by
 have hsh:WShape.hasAll [] args [.list .int]=true:=(pre_splitW hpre).1
 have hc:l.pre.holds [] { args:=args }=true:=(pre_splitW hpre).2
 obtain⟨d,r,rfl,h1,h2⟩:=hasAllW_cons hsh
 obtain rfl:=hasAllW_nil h2
 obtain⟨xs,rfl,h3⟩:=hasW_list h1
 obtain⟨ns,rfl⟩:=items_int h3
 have hlen:ns.length≤n:=by
  unfold OpenLaw.pre at hc
  have h4:(WTm.not (.lt (.lit (.int (n:Int))) (.len (.arg 0)))).holds [] { args:=[.list (ns.map .int)] }=true:=by
   have h4:=(holds_andW hc).1
   rw[hn] at h4
   exact h4
  have h5:=condW_of h4 (w_not (w_lt w_lit (w_len_list (w_arg rfl))))
  rw[Vab] at h5
  refine Nat.le_of_not_lt λq=>?_
  have q':(n:Int)<((ns.length:Nat):Int):=by omega
  first
   | (rw[decide_eq_true q'] at h5; exact absurd h5 (by decide))
   | (simp at h5; omega)
 cases hwl with
 | cons w1 w2=>
  cases w2
  cases w1 with
  | list ho hall=>exact⟨_,_,ns,rfl,rfl,ho,zqA ns _ hall,hlen⟩
theorem zr1 (l:OpenLaw)(args:List WData):l.row.toRowW.claim.post args (.bool true) args=true:=
 postW_of (r:=l.row.toRowW) (X:=(true==true))
  (show WShape.has [] (.bool true) .bool=true by first | rfl | decide | simp[WShape.has,WShape.arms,WShape.armsAll])
  (show (WTm.eq .res (.lit (.bool true))).value [] { args:=args,res:=some (.bool true),after:=args }=some (.bool (true==true)) from w_eq_bool (w_res rfl) w_lit) rfl
theorem attach_call {l:OpenLaw}{n:Nat}{q:Program}{loose:List Str}{XP:(Str→Option Value)→Heap→Prop}{YP:World→Heap→Prop}{d:DefRec}
  (hn:l.most=some n)(hdf:d.params.defaults=[])
  (call:∀(w:World) (s₀ s₁:Shared) (mg mb:Str→Option Value) (fa:Addr) (o:Obj) (pm cd doc:Value) (a:Addr) (vs:List Value) (ns:List Int),
   Ground q loose [] XP w s₀ mg mb s₁.heap→YP w s₁.heap→
   s₁.heap.get? fa=some o→o.data=.func (docDef d.name d.params d.body d.scope pm cd doc)→s₁.heap.CodeRec cd d.name→mg d.name=some (.ref fa)→
   s₁.heap.get? a=some { cls:=.type "list",data:=.seq vs.toArray }→IntsAre vs ns→ns.length≤n→s₁.gens=#[]→
   codeAny (model l.prog w) callerA (.call (.ref fa) ⟨[.ref a],[]⟩) (λr s'=>r=.ok (.ret (.bool true))∧OldK s₁.heap s'.heap∧s'.os=s₁.os∧AllBare s'.gens) s₁):
  WalkO q loose XP YP l.row.toRowW d [] (λf vs=>PySem.call f vs):=by
 intro w s₀ s₁ mg mb G Y fa o pm cd doc dV kV ho hd hcd hD hmg hg args vals as hpre hlay hrd hwl hlo
 obtain rfl:dV=.none:=Dflts.none hD hdf
 obtain rfl:kV=.none:=Dflts.noKw hD
 obtain⟨a,vs,ns,rfl,rfl,hobj,hints,hlen⟩:=zrv hn hpre hwl
 refine enter_call (codeAny_mono (call w s₀ s₁ mg mb fa o pm cd doc a vs ns G Y ho (fd_plain hd) hcd hmg hobj hints hlen hg) λr s' hq=>?_)
 obtain⟨rfl,h2,h3,h4⟩:=hq
 exact⟨.inl ⟨.bool true,.bool true,[],rfl,λ_=>rfl,.bool true,zr1 l _,λ_=>⟨List.Pairwise.nil,λ_ hm=>(nomatch hm)⟩⟩,h2,h3,h4⟩
section
variable {prog:Program}{w:World}{A:Around}{E:Value→Shared→Prop}{s:Shared}{K:Frag}
def ledger (h:Heap)(L d:Addr):List (Addr×Obj):=(List.range h.objs.size).filterMap λa=>if a=L∨a=d then none else (h.get? a).map λo=>(a,o)
end
end Att
namespace L2
open PySem PySem.Spec PyProof.Rows
theorem zjX:∀ {vs:List Value} {ns:List Int},IntsAre vs ns→zaw (ns.map V.int) vs
 | _,_,.nil=>.nil
 | _,_,.cons n t h=>.cons ⟨t,rfl⟩ (zjX h)
def zfi (H:Hp):Prop:=∀b,H b=none∨∃o xs,H b=some (.frz o (.lst xs))
theorem zsr {P:Program}{w:World}{K:PySem.W.Frag}{mg mb:Str→Option Value}{CX:CXT}{k:Nat}{fa a:Addr}{fd:FuncData}{x:Str}{sp:Sp}{s₁:Shared}{vs:List Value}{ns:List Int}
  (KX:K.In s₁.heap)(hns:s₁.heap.Ns mainGlobals mg)(hb:s₁.heap.Ns builtinsNs mb)(hbb:∀x:Str,x≠"__name__"→mb x=bootBuiltins x)(hlim:s₁.heap.NoLimit)(hg:s₁.gens=#[])
  (ha:s₁.heap.get? a=some { cls:=.type "list",data:=.seq vs.toArray })(hi:IntsAre vs ns)(hl:ns.length≤sizeLine)(hr:zaE k callerA)
  (F:∀base:Heap,K.In base→base.Ns mainGlobals mg→zaZ P w K mg base CX k fa fd [x] sp)(hbind:∀(s:Shared) (u:Value),BindsTo s fd ⟨[u],[]⟩ [(x,u)])
  (hsp:∀H:Hp,zfi H→SqL K H a (ns.map V.int)→sp [.ref a] H (λv _=>v=.bl true) λ_ _ _=>False)
  (hCX:∀H e s',CX [] H s₁ (λ_ _ _=>False) e s'→False):
  codeAny (model P w) callerA (.call (.ref fa) ⟨[.ref a],[]⟩) (λr s'=>r=.ok (.ret (.bool true))∧OldK s₁.heap s'.heap∧s'.os=s₁.os∧AllBare s'.gens) s₁:=by
 have rv:=zjX hi
 have lenV:=hi.length
 have core:∀H:Hp,zfi H→SqL K H a (ns.map V.int)→HOk P w H s₁.heap→(∀b,H b≠none→b=a)→(H a≠none→K.lookup a=none)→
   codeAny (model P w) callerA (.call (.ref fa) ⟨[.ref a],[]⟩) (λr s'=>r=.ok (.ret (.bool true))∧OldK s₁.heap s'.heap∧s'.os=s₁.os∧AllBare s'.gens) s₁:=by
  intro H hO hS hok hA hK
  have base_of:∀ {b:Addr} {o:Obj},s₁.heap.get? b=some o→H b=none→(zcA s₁.heap H).get? b=some o:=λe n=>zrF e n
  have noA:∀ {b:Addr} {o:Obj} {es:Array DictEntry} {ep:Nat},s₁.heap.get? b=some o→o.data=.dict es ep→H b=none:=λ{b o es ep} e d=>by
   cases q:H b with
   | none=>rfl
   | some u=>
    have e':b=a:=hA b (by rw[q]; simp)
    subst e'
    rw[ha] at e; cases e
    have d':Data.seq vs.toArray _=Data.dict es ep:=d
    cases d'
  have nsK:∀ {b:Addr} {m:Str→Option Value},s₁.heap.Ns b m→(zcA s₁.heap H).Ns b m:=λ{b m} ⟨o,es,ep,e,d,r⟩=>⟨o,es,ep,base_of e (noA e d),d,r⟩
  have hKb:K.In (zcA s₁.heap H):=λb o e=>base_of (KX b o e) (by
   cases q:H b with
   | none=>rfl
   | some u=>
    have e':b=a:=hA b (by rw[q]; simp)
    subst e'
    rw[hK (by rw[q]; simp)] at e; cases e)
  have hM:Mod K mg (zcA s₁.heap H):=⟨hKb,nsK hns,⟨mb,nsK hb,hbb⟩,let ⟨mc,h1,h2⟩:=hlim; ⟨mc,nsK h1,h2⟩⟩
  have e0:zcc P w K mg (zcA s₁.heap H) callerA [] s₁ H:=⟨rfl,hM,λb o e=>zrk e,Nat.le_of_eq (zoD _ _),trivial,λb hb=>absurd (show b∈([]:List Addr) from hb) (by simp),hok,.of_eq hg⟩
  refine codeAny_mono ((F _ hKb (nsK hns)).run callerA [] s₁ H ⟨[.ref a],[]⟩ [.ref a] [.ref a] _ _ hr e0 (hbind s₁ (.ref a)) (.cons rfl .nil) (hsp H hO hS)) λr s' h=>?_
  cases r with
  | error e=>exact(hCX H e s' h).elim
  | ok fl=>
   cases fl with
   | next=>exact False.elim h
   | brk=>exact False.elim h
   | cont=>exact False.elim h
   | ret u=>
    obtain⟨v,H',os,bare,un,hok',r',q⟩:=h
    have q':v=.bl true:=q
    subst q'
    obtain rfl:u=Value.bool true:=r'
    refine⟨rfl,OldK.of_keep λb o e=>?_,os,bare⟩
    cases q:H b with
    | none=>exact un.keep b o e q (by intro z; exact absurd (show b∈([]:List Addr) from z) (by simp)) (by simp)
    | some u=>
     rcases hO b with z | ⟨ob,xs,z⟩
     ·rw[q] at z; cases z
     ·have z2:=un.frzs b ob _ z
      obtain⟨e1,_⟩:=hok b _ z
      obtain⟨e2,_⟩:=hok' b _ z2
      rw[e] at e1; cases e1
      exact e2
 cases hk:K.lookup a with
 | some o=>
  have e:=KX a o hk
  rw[ha] at e
  cases e
  refine core (λ_=>none) (λ_=>.inl rfl) (.inr ⟨_,vs.toArray,_,hk,rfl,rfl,rfl,by rw[Val,lenV]; exact hl,by simpa using rv⟩) (λb u z=>by have z':(none:Option HO)=some u:=z; cases z') (λb z=>absurd rfl z) λz=>absurd rfl z
 | none=>
  refine core (λb=>if b=a then some (.frz { cls:=.type "list",data:=.seq vs.toArray } (.lst (ns.map V.int))) else none) (λb=>?_) (.inl (.inr ⟨{ cls:=.type "list",data:=.seq vs.toArray },if_pos rfl⟩)) (λb u z=>?_) (λb z=>?_) λ_=>hk
  ·by_cases hb:b=a
   ·exact .inr ⟨_,_,if_pos hb⟩
   ·exact .inl (if_neg hb)
  ·by_cases hb:b=a
   ·have z':=(if_pos hb).symm.trans z
    cases z'
    subst hb
    exact⟨ha,by rw[Vab]; exact hl,vs,_,rv,ha⟩
   ·have z':=(if_neg hb).symm.trans z
    cases z'
  ·by_cases hb:b=a
   ·exact hb
   ·exact absurd (if_neg hb) z
end L2
namespace L2
open PySem PySem.Spec PyProof.Rows
theorem zpq {l:PySem.W.OpenLaw}{n k:Nat}{q:Program}{loose:List Str}{XP:(Str→Option Value)→Heap→Prop}{YP:World→Heap→Prop}{d:DefRec}{K:Params→PySem.W.Frag}{CX:World→CXT}{sp:World→Sp}{x:Str}
  (hn:l.most=some n)(hn2:n≤sizeLine)(hdf:d.params.defaults=[])(hr:zaE k callerA)
  (hY:∀(w:World) (h:Heap),YP w h→(K w.params).In h)
  (F:∀(w:World) (mg:Str→Option Value) (fa:Addr) (h:Heap),(K w.params).In h→h.Ns mainGlobals mg→mg d.name=some (.ref fa)→
   ∃fd:FuncData,(∀(s:Shared) (u:Value),BindsTo s fd ⟨[u],[]⟩ [(x,u)])∧
    ∀base:Heap,(K w.params).In base→base.Ns mainGlobals mg→zaZ l.prog w (K w.params) mg base (CX w) k fa fd [x] (sp w))
  (hsp:∀(w:World) (H:Hp) (a:Addr) (ns:List Int),ns.length≤n→zfi H→SqL (K w.params) H a (ns.map V.int)→sp w [.ref a] H (λv _=>v=.bl true) λ_ _ _=>False)
  (hCX:∀(w:World) (H:Hp) (s:Shared) (e:Value) (s':Shared),CX w [] H s (λ_ _ _=>False) e s'→False):
  PySem.W.WalkO q loose XP YP l.row.toRowW d [] (λf vs=>PySem.call f vs):=by
 refine Att.attach_call hn hdf λw s₀ s₁ mg mb fa o pm cd doc a vs ns G Y ho hd hcd hmg hobj hints hlen hg=>?_
 have KX:=hY w _ Y
 obtain⟨fd,hb,hF⟩:=F w mg fa _ KX G.T.g hmg
 exact zsr KX G.T.g G.T.b G.T.builtins G.T.nolimit hg hobj hints (Vas hlen hn2) hr hF hb (λH hO hS=>hsp w H a ns hlen hO hS) λH e s'=>hCX w H s₁ e s'
end L2
namespace L2
open PySem PySem.Spec PyProof.Rows
abbrev CX0:CXT:=λ_ _ _ _ _ _=>False
structure Fun (K:PySem.W.Frag)(x qual:Str)(st:Stmt)(f:Addr)(fd:FuncData):Prop where
 ex:∃(oc:Value) (od:Option Addr) (kV doc pm:Value) (an:Option Addr) (cdv ct:Value) (osl:Array (Option Value)),
  fd=PySem.W.fnOf x qual (zdJ st) (zcB st) (zat st) .none kV doc pm an cdv ct∧K.lookup f=some ⟨oc,od,.func fd,osl⟩∧PySem.W.codeIn K cdv qual=true
 kp:PySem.W.keepIn K (.ref f)=true
section
variable {P:Program}{w:World}{K:PySem.W.Frag}{mg:Str→Option Value}{base:Heap}
theorem Fun.ok {x qual:Str}{st:Stmt}{f:Addr}{fd:FuncData}{N ps:List Str}{k:Nat}{sp:Sp}(F:Fun K x qual st f fd)(S:zaz N ps (zat st))(len:∀vs H Q E,sp vs H Q E→vs.length=ps.length)
  (hbody:∀(cdv:Value) (A:Around) (outer:List Env) (s:Shared) (H:Hp) (vs:List V) (Q:VK) (E:XK),zaE k (A.deeper (envOfC qual (zat st) s.heap.objs.size f cdv))→sp vs H Q E→
   ∃t,PSs (zdI CX0 P w K mg base N qual (zat st) f cdv A outer s H E).nox (zcB st) t∧t { nx:=λ_ H'=>Q .non H',rt:=Q } (zce N vs) H):zaZ P w K mg base CX0 (k+1) f fd ps sp:=by
 obtain⟨oc,od,kV,doc,pm,an,cdv,ct,osl,rfl,lk,hcd⟩:=F.ex
 refine zmA lk hcd S len λA outer s H vs Q E hr hsp=>?_
 obtain⟨t,h,q⟩:=hbody cdv A outer s H vs Q E hr hsp
 exact⟨t,h.nox,q⟩
theorem Fun.binds {x qual:Str}{st:Stmt}{f:Addr}{fd:FuncData}{ps:List Str}(F:Fun K x qual st f fd)
  (h:∀(kV doc pm:Value) (an:Option Addr) (cdv ct:Value) (us:List Value),us.length=ps.length→bindArgs (PySem.W.fnOf x qual (zdJ st) (zcB st) (zat st) .none kV doc pm an cdv ct) ⟨us,[]⟩=pure (ps.zip us)):zbi K fd ps []:=by
 obtain⟨oc,od,kV,doc,pm,an,cdv,ct,osl,rfl,lk,hcd⟩:=F.ex
 exact .all (h kV doc pm an cdv ct)
theorem zj0 {x qual:Str}{st:Stmt}{f:Addr}{oc:Value}{od an:Option Addr}{osl:Array (Option Value)}{kV doc pm cdv ct:Value}(l:K.lookup f=some ⟨oc,od,.func (PySem.W.fnOf x qual (zdJ st) (zcB st) (zat st) .none kV doc pm an cdv ct),osl⟩)
  (c:PySem.W.codeIn K cdv qual=true)(k:PySem.W.keepIn K (.ref f)=true):Fun K x qual st f (PySem.W.fnOf x qual (zdJ st) (zcB st) (zat st) .none kV doc pm an cdv ct):=⟨⟨oc,od,kV,doc,pm,an,cdv,ct,osl,rfl,l,c⟩,k⟩
end
theorem zkB {n:Nat}(h:n≤1000):n<sizeLine:=Nat.lt_of_le_of_lt h (by decide)
section
variable {X:Cx}
theorem pv (i:Nat){x:Str}{pos:Pos}(hN:X.N[i]?=some x:=by rfl)(hv:Vis X.env.scope x:=by first | exact Or.inl rfl | exact Or.inr (Or.inl rfl) | exact Or.inr (Or.inr rfl))(hd:(x==("__debug__":Str))=false:=by decide)
  (hcd:(x==("__classdict__":Str))=false:=by decide):PE X (.Name x pos) (tVar i):=zmG hN hv hd hcd
end
theorem zb3 {A B:Prop}(h:B):if false=true then A else B:=by
 rw[if_neg Vaj]
 exact h
theorem zch {A B:Prop}(h:A):if true=true then A else B:=by
 rw[if_pos rfl]
 exact h
theorem zfc {c A B:Prop} [Decidable c] (h1:c→A)(h2:¬ c→B):if c then A else B:=by
 by_cases h:c
 ·rw[if_pos h]
  exact h1 h
 ·rw[if_neg h]
  exact h2 h
def zcs (H H':Hp):Prop:=∀b o,H b=some o→H' b=some o
theorem zcs.refl (H:Hp):zcs H H:=λ_ _ h=>h
theorem zcs.trans {H H1 H2:Hp}(a:zcs H H1)(b:zcs H1 H2):zcs H H2:=λc o h=>b c o (a c o h)
theorem zcs.free {H H':Hp}(e:zcs H H'){l:Addr}(h:H' l=Option.none):H l=Option.none:=by
 cases q:H l with
 | none=>rfl
 | some o=>
  rw[e l o q] at h
  cases h
theorem zcs.seq {K:PySem.W.Frag}{H H':Hp}{a:Addr}{xs:List V}(e:zcs H H')(h:SqL K H a xs):SqL K H' a xs:=by
 rcases h with (h | ⟨o,h⟩) | h
 ·exact .inl (.inl (e _ _ h))
 ·exact .inl (.inr ⟨o,e _ _ h⟩)
 ·exact .inr h
end L2
namespace L2
open PySem PySem.Spec PyProof.Rows
section
variable {κ:Type} [DecidableEq κ]
def zbA (kvs:List (κ×V))(k:κ):Option V:=(kvs.find? λkv=>decide (kv.1=k)).map (·.2)
def putK (kvs:List (κ×V))(k:κ)(v:V):List (κ×V):=
 if (kvs.any λkv=>decide (kv.1=k))=true then kvs.map (λkv=>if kv.1=k then (kv.1,v) else kv) else kvs++[(k,v)]
def zlR (kvs:List (κ×V))(k:κ):List (κ×V):=kvs.filter λkv=>decide (kv.1≠k)
theorem zg0 {p:κ×V}{r:List (κ×V)}{k:κ}(e:p.1=k):zbA (p::r) k=some p.2:=by simp[zbA,VaK,e]
theorem zkn {p:κ×V}{r:List (κ×V)}{k:κ}(e:¬ p.1=k):zbA (p::r) k=zbA r k:=by simp[zbA,VaK,e]
theorem zmw (k:κ):∀kvs:List (κ×V),(kvs.any λkv=>decide (kv.1=k))=(zbA kvs k).isSome
 | []=>rfl
 | p::r=>by
  rw[List.any_cons]
  by_cases e:p.1=k
  ·simp only[zg0 e,decide_eq_true e,Bool.true_or,Option.isSome_some]
  ·rw[zkn e,decide_eq_false e,Bool.false_or]; exact zmw k r
theorem zbm.isSome_eq {o:Option V}{u:Option Value}(r:zbm o u):o.isSome=u.isSome:=by
 cases o with
 | none=>cases u with
  | none=>rfl
  | some _=>exact(show False from r).elim
 | some _=>cases u with
  | none=>exact(show False from r).elim
  | some _=>rfl
theorem zbm.getD {o:Option V}{u:Option Value}{d:V}{d':Value}(r:zbm o u)(rd:zax d d'):zax (o.getD d) (u.getD d'):=by
 cases o with
 | none=>cases u with
  | none=>exact rd
  | some _=>exact(show False from r).elim
 | some _=>cases u with
  | none=>exact(show False from r).elim
  | some _=>exact r
theorem KV.val {kvs:List (κ×V)}{vs:List (κ×Value)}(r:KV kvs vs)(k:κ):zbm (zbA kvs k) (valueAt vs k):=by
 unfold KV at r
 induction r with
 | nil=>exact True.intro
 | @cons p q ps qs h t ih=>
  obtain⟨h1,h2⟩:=h
  by_cases e:p.1=k
  ·have e':q.1=k:=h1.symm.trans e
   have b:valueAt (q::qs) k=some q.2:=by simp[valueAt,VaK,e']
   rw[zg0 e,b]; exact h2
  ·have e':¬ q.1=k:=λz=>e (h1.trans z)
   have b:valueAt (q::qs) k=valueAt qs k:=by simp[valueAt,VaK,e']
   rw[zkn e,b]; exact ih
theorem KV.any {kvs:List (κ×V)}{vs:List (κ×Value)}(r:KV kvs vs)(k:κ):(kvs.any λkv=>decide (kv.1=k))=vs.any λkv=>decide (kv.1=k):=by
 unfold KV at r
 induction r with
 | nil=>rfl
 | cons h t ih=>rw[List.any_cons,List.any_cons,ih,h.1]
theorem KV.repl {kvs:List (κ×V)}{vs:List (κ×Value)}(r:KV kvs vs)(k:κ){y:V}{u:Value}(ry:zax y u):
  KV (kvs.map λkv=>if kv.1=k then (kv.1,y) else kv) (vs.map λkv=>if kv.1=k then (kv.1,u) else kv):=by
 unfold KV at r ⊢
 induction r with
 | nil=>exact .nil
 | @cons p q ps qs h t ih=>
  rw[Vak,Vak]
  refine .cons ?_ ih
  obtain⟨h1,h2⟩:=h
  by_cases e:p.1=k
  ·rw[if_pos e,if_pos (h1.symm.trans e)]; exact⟨h1,ry⟩
  ·rw[if_neg e,if_neg (λz=>e (h1.trans z))]; exact⟨h1,h2⟩
theorem KV.put {kvs:List (κ×V)}{vs:List (κ×Value)}(r:KV kvs vs)(k:κ){y:V}{u:Value}(ry:zax y u):KV (putK kvs k y) (stored vs k u):=by
 unfold putK stored
 rw[r.any k]
 by_cases e:(vs.any λkv=>decide (kv.1=k))=true
 ·rw[if_pos e,if_pos e]; exact r.repl k ry
 ·rw[if_neg e,if_neg e]; exact Paired.snoc r ⟨rfl,ry⟩
theorem KV.drop {kvs:List (κ×V)}{vs:List (κ×Value)}(r:KV kvs vs)(k:κ):KV (zlR kvs k) (without vs k):=by
 unfold KV at r ⊢
 unfold zlR without
 induction r with
 | nil=>exact .nil
 | @cons p q ps qs h t ih=>
  obtain⟨h1,h2⟩:=h
  rw[List.filter_cons,List.filter_cons]
  by_cases e:p.1=k
  ·have a:¬ decide (p.1≠k)=true:=by simp[e]
   have b:¬ decide (q.1≠k)=true:=by simp[h1.symm.trans e]
   rw[if_neg a,if_neg b]; exact ih
  ·have e':¬ q.1=k:=λz=>e (h1.trans z)
   have a:decide (p.1≠k)=true:=by simp[e]
   have b:decide (q.1≠k)=true:=by simp[e']
   rw[if_pos a,if_pos b]; exact .cons ⟨h1,h2⟩ ih
theorem KV.keys {kvs:List (κ×V)}{vs:List (κ×Value)}(r:KV kvs vs):kvs.map (·.1)=vs.map (·.1):=by
 unfold KV at r
 induction r with
 | nil=>rfl
 | cons h t ih=>rw[Vak,Vak,ih,h.1]
theorem KV.length {kvs:List (κ×V)}{vs:List (κ×Value)}(r:KV kvs vs):kvs.length=vs.length:=Paired.length r
end
abbrev KT (H:Hp):List (List Key×V)→List (List Key×Addr×Value)→Prop:=Paired λp q=>p.1=q.1∧H q.2.1=some (.tup (p.1.map kV))∧zax p.2 q.2.2
theorem KT.val {H:Hp}{kvs:List (List Key×V)}{xs:List (List Key×Addr×Value)}(r:KT H kvs xs)(k:List Key):zbm (zbA kvs k) ((atKey xs k).map (·.2)):=by
 induction r with
 | nil=>exact True.intro
 | @cons p q ps qs h t ih=>
  obtain⟨h1,_,h2⟩:=h
  by_cases e:p.1=k
  ·have e':q.1=k:=h1.symm.trans e
   have b:atKey (q::qs) k=some q.2:=by simp[atKey,VaK,e']
   rw[zg0 e,b]; exact h2
  ·have e':¬ q.1=k:=λz=>e (h1.trans z)
   have b:atKey (q::qs) k=atKey qs k:=by simp[atKey,VaK,e']
   rw[zkn e,b]; exact ih
theorem KT.repl {H:Hp}{kvs:List (List Key×V)}{xs:List (List Key×Addr×Value)}(r:KT H kvs xs)(k:List Key){y:V}{u:Value}(ry:zax y u):
  KT H (kvs.map λkv=>if kv.1=k then (kv.1,y) else kv) (xs.map (putAt k u)):=by
 induction r with
 | nil=>exact .nil
 | @cons p q ps qs h t ih=>
  rw[Vak,Vak]
  refine .cons ?_ ih
  obtain⟨h1,h2,h3⟩:=h
  unfold putAt
  by_cases e:p.1=k
  ·rw[if_pos e,if_pos (h1.symm.trans e)]; exact⟨h1,h2,ry⟩
  ·rw[if_neg e,if_neg (λz=>e (h1.trans z))]; exact⟨h1,h2,h3⟩
theorem KT.put {H:Hp}{kvs:List (List Key×V)}{xs:List (List Key×Addr×Value)}(r:KT H kvs xs)(k:List Key){b:Addr}{y:V}{u:Value}(hb:H b=some (.tup (k.map kV)))(ry:zax y u):
  KT H (putK kvs k y) (storedH xs k b u):=by
 have e:(kvs.any λkv=>decide (kv.1=k))=(atKey xs k).isSome:=by
  rw[zmw,(r.val k).isSome_eq,Option.isSome_map]
 unfold putK storedH
 rw[e]
 by_cases q:(atKey xs k).isSome=true
 ·rw[if_pos q,if_pos q]; exact r.repl k ry
 ·rw[if_neg q,if_neg q]; exact Paired.snoc r ⟨rfl,hb,ry⟩
theorem KT.keeps {H H':Hp}{kvs:List (List Key×V)}{xs:List (List Key×Addr×Value)}(r:KT H kvs xs)(ht:∀b ys,H b=some (.tup ys)→H' b=some (.tup ys)):KT H' kvs xs:=
 Paired.mapP r λ_ _ z=>⟨z.1,ht _ _ z.2.1,z.2.2⟩
section
variable {P:Program}{w:World}{H:Hp}{h:Heap}{a:Addr}
end
def zgO (H:Hp)(a:Addr)(y:V)(r:Option V):Prop:=
 (∃kvs k,Rd H a (.dK kvs)∧y=kV k∧r=zbA kvs k)∨∃kvs k b,Rd H a (.dT kvs)∧y=.ref b∧H b=some (.tup (k.map kV))∧r=zbA kvs k
def zjx (H:Hp)(a:Addr)(y v:V)(H':Hp):Prop:=
 (∃kvs k,H a=some (.dK kvs)∧y=kV k∧kvs.length<sizeLine∧H'=upd H a (.dK (putK kvs k v)))∨
 ∃kvs k b,H a=some (.dT kvs)∧y=.ref b∧H b=some (.tup (k.map kV))∧kvs.length<sizeLine∧H'=upd H a (.dT (putK kvs k v))
theorem zgO.k {H:Hp}{a:Addr}{kvs:List (Key×V)}{k:Key}(e:H a=some (.dK kvs)):zgO H a (kV k) (zbA kvs k):=.inl ⟨kvs,k,.inl e,rfl,rfl⟩
theorem zgO.t {H:Hp}{a b:Addr}{kvs:List (List Key×V)}{k:List Key}(e:H a=some (.dT kvs))(eb:H b=some (.tup (k.map kV))):zgO H a (.ref b) (zbA kvs k):=.inr ⟨kvs,k,b,.inl e,rfl,eb,rfl⟩
theorem zjx.k {H:Hp}{a:Addr}{kvs:List (Key×V)}{k:Key}{v:V}(e:H a=some (.dK kvs))(hl:kvs.length<sizeLine):zjx H a (kV k) v (upd H a (.dK (putK kvs k v))):=.inl ⟨kvs,k,e,rfl,hl,rfl⟩
theorem zjx.t {H:Hp}{a b:Addr}{kvs:List (List Key×V)}{k:List Key}{v:V}(e:H a=some (.dT kvs))(eb:H b=some (.tup (k.map kV)))(hl:kvs.length<sizeLine):
  zjx H a (.ref b) v (upd H a (.dT (putK kvs k v))):=.inr ⟨kvs,k,b,e,rfl,eb,hl,rfl⟩
section
variable {X:Cx}{pins:List (Addr×Obj)}{σ:St}{H:Hp}{s:Shared}{a:Addr}{y v:V}{u r:Value}{o:Option V}{A:Around}{E:Value→Shared→Prop}
theorem Inv.big (I:Inv X pins σ H s):sysModules<s.heap.objs.size:=by
 have h:mainGlobals<s.heap.objs.size:=(I.mod.glob.keeps I.bk).lt
 exact Nat.lt_trans (by decide) h
end
section
variable {X:Cx}{pins:List (Addr×Obj)}{σ:St}{H:Hp}{s:Shared}{a:Addr}{kvs:List (Key×V)}{k:Key}{u:Value}{A:Around}{E:Value→Shared→Prop}
end
section
variable {X:Cx}{o i e value:Expr}{pos pos' tpos:Pos}{td ty tv:TE}
end
section
variable {X:Cx}{pos:Pos}
end
structure M1 (X:Cx)(o:Expr)(m:Str)(apos:Pos)(e:Expr)(cpos:Pos):Prop where
 base:attributeBase o m X.env (eval o X.env)=eval o X.env
 few:((backTo cpos (starEach [e] X.env)).all (λx=>!x.1)&&(backToKw cpos (keywordEach [] X.env)).all (λx=>x.1.isSome)
 &&decide (([e]:List Expr).length+([]:List Keyword).length+(if ([]:List Keyword).isEmpty then 0 else 1)<30))=true
 line:(apos.endLine==cpos.line)=true
 trees:backTo cpos (starEach [e] X.env)=[(false,eval e X.env)]
structure M2 (X:Cx)(o:Expr)(m:Str)(apos:Pos)(e f:Expr)(cpos:Pos):Prop where
 base:attributeBase o m X.env (eval o X.env)=eval o X.env
 few:((backTo cpos (starEach [e,f] X.env)).all (λx=>!x.1)&&(backToKw cpos (keywordEach [] X.env)).all (λx=>x.1.isSome)
 &&decide (([e,f]:List Expr).length+([]:List Keyword).length+(if ([]:List Keyword).isEmpty then 0 else 1)<30))=true
 line:(apos.endLine==cpos.line)=true
 trees:backTo cpos (starEach [e,f] X.env)=[(false,eval e X.env),(false,eval f X.env)]
section
variable {X:Cx}{pins:List (Addr×Obj)}{σ:St}{H:Hp}{s:Shared}{a:Addr}{y d:V}{u r:Value}{o:Option V}{A:Around}{E:Value→Shared→Prop}
end
section
variable {X:Cx}{o e f:Expr}{apos cpos:Pos}{td ty tx:TE}
end
section
variable {X:Cx}{pins:List (Addr×Obj)}{σ:St}{H:Hp}{s:Shared}{a:Addr}{kvs:List (Key×V)}{A:Around}{E:Value→Shared→Prop}
end
section
variable {X:Cx}{pins:List (Addr×Obj)}{σ:St}{H:Hp}{s:Shared}{a:Addr}{y:V}{u:Value}{A:Around}{E:Value→Shared→Prop}
end
end L2
namespace L3
open PySem PySem.Spec PyProof.Rows L2
abbrev St:=L2.St
inductive D where
 | non | bl (b:Bool) | int (i:Int) | str (x:Str) | tup (xs:List D) | ref (n:Nat) | exc (c:Addr)
inductive Ob where
 | lst (xs:List D) | frz (xs:List D)
  | ins (C:Addr) (fs:List (Str×D))
  | dct (kvs:List (List Key×D))
abbrev Sto:=List Ob
abbrev Ev:=List (Option D)
abbrev DK:=D→Sto→Prop
abbrev TDE:=Ev→Sto→DK→Prop
abbrev TDT:=Ev→Sto→(Bool→Sto→Prop)→Prop
abbrev TDA:=Ev→Sto→(List D→Sto→Prop)→Prop
structure zcG where
 nx:Ev→Sto→Prop
 rt:DK
 bk:Ev→Sto→Prop:=λ_ _=>False
 ct:Ev→Sto→Prop:=λ_ _=>False
abbrev TDS:=zcG→Ev→Sto→Prop
def isX (a c:Addr):HO:=.ext λh=>∃o,h.get? a=some o∧o.cls=.ref c
inductive Rp (r:List Addr)(H:Hp):D→V→Prop
 | non:Rp r H .non .non
 | bl (b:Bool):Rp r H (.bl b) (.bl b)
 | int (i:Int):Rp r H (.int i) (.int i)
 | str (x:Str):Rp r H (.str x) (.str x)
 | tup {ds:List D} {xs:List V} {a:Addr}:H a=some (.tup xs)→ds.length=xs.length→(∀(i:Nat) (d:D) (v:V),ds[i]?=some d→xs[i]?=some v→Rp r H d v)→Rp r H (.tup ds) (.ref a)
 | ref {n:Nat} {a:Addr}:r[n]?=some a→Rp r H (.ref n) (.ref a)
 | exc {c a:Addr}:H a=some (isX a c)→Rp r H (.exc c) (.ref a)
def Rps (r:List Addr)(H:Hp)(ds:List D)(vs:List V):Prop:=ds.length=vs.length∧∀(i:Nat) (d:D) (v:V),ds[i]?=some d→vs[i]?=some v→Rp r H d v
structure Ext (r r':List Addr)(H H':Hp):Prop where
 adr:∀(n:Nat) (a:Addr),r[n]?=some a→r'[n]?=some a
 tup:∀a xs,H a=some (.tup xs)→H' a=some (.tup xs)
 xc:∀a c,H a=some (isX a c)→H' a=some (isX a c)
section
variable {r r' r2:List Addr}{H H' H2:Hp}{d:D}{v:V}{ds:List D}{vs:List V}
theorem Ext.refl:Ext r r H H:=⟨λ_ _ h=>h,λ_ _ h=>h,λ_ _ h=>h⟩
theorem Ext.trans (a:Ext r r' H H')(b:Ext r' r2 H' H2):Ext r r2 H H2:=⟨λn x h=>b.adr n x (a.adr n x h),λx y h=>b.tup x y (a.tup x y h),λx y h=>b.xc x y (a.xc x y h)⟩
theorem Rp.ext (h:Rp r H d v)(e:Ext r r' H H'):Rp r' H' d v:=by
 induction h with
 | non=>exact .non
 | bl b=>exact .bl b
 | int i=>exact .int i
 | str x=>exact .str x
 | tup h l _ ih=>exact .tup (e.tup _ _ h) l ih
 | ref h=>exact .ref (e.adr _ _ h)
 | exc h=>exact .exc (e.xc _ _ h)
theorem Rps.ext (h:Rps r H ds vs)(e:Ext r r' H H'):Rps r' H' ds vs:=⟨h.1,λi d v h1 h2=>(h.2 i d v h1 h2).ext e⟩
theorem Rps.nil:Rps r H [] []:=⟨rfl,λi d v h=>by simp at h⟩
theorem Rps.cons (h:Rp r H d v)(t:Rps r H ds vs):Rps r H (d::ds) (v::vs):=by
 refine⟨by simp[t.1],λi x y h1 h2=>?_⟩
 cases i with
 | zero=>
  simp at h1 h2
  subst h1; subst h2
  exact h
 | succ i=>exact t.2 i x y (by simpa using h1) (by simpa using h2)
theorem Rps.tail {y:V}(h:Rps r H (d::ds) (y::vs)):Rp r H d y∧Rps r H ds vs:=
 ⟨h.2 0 d y rfl rfl,by simpa using h.1,λi a b h1 h2=>h.2 (i+1) a b (by simpa using h1) (by simpa using h2)⟩
theorem Rps.uncons (h:Rps r H (d::ds) vs):∃v vs',vs=v::vs'∧Rp r H d v∧Rps r H ds vs':=by
 cases vs with
 | nil=>exact absurd h.1 (by simp)
 | cons v vs'=>exact⟨v,vs',rfl,h.tail⟩
theorem Rps.unnil (h:Rps r H [] vs):vs=[]:=by
 cases vs with
 | nil=>rfl
 | cons v vs'=>exact absurd h.1 (by simp)
theorem Rps.get {i:Nat}(h:Rps r H ds vs)(e:ds[i]?=some d):∃v,vs[i]?=some v∧Rp r H d v:=by
 have hi:i<ds.length:=(Vad.mp e).1
 have hv:i<vs.length:=by rw[← h.1]; exact hi
 exact⟨vs[i],by simp[hv],h.2 i d vs[i] e (by simp[hv])⟩
theorem Rps.snoc (h:Rps r H ds vs)(t:Rp r H d v):Rps r H (ds++[d]) (vs++[v]):=by
 refine⟨by simp[h.1],λi x y h1 h2=>?_⟩
 by_cases hi:i<ds.length
 ·rw[Var hi] at h1
  rw[Var (by rw[← h.1]; exact hi)] at h2
  exact h.2 i x y h1 h2
 ·have hl:i<(ds++[d]).length:=(Vad.mp h1).1
  have e:i=ds.length:=by simp at hl; omega
  subst e
  rw[VaV (Vaa _)] at h1
  rw[h.1,VaV (Vaa _)] at h2
  simp at h1 h2
  subst h1; subst h2
  exact t
theorem Rps.tupR {a:Addr}(h:Rps r H ds vs)(e:H a=some (.tup vs)):Rp r H (.tup ds) (.ref a):=.tup e h.1 h.2
theorem Rp.untup {vs:V}(h:Rp r H (.tup ds) vs):∃a xs,vs=.ref a∧H a=some (.tup xs)∧Rps r H ds xs:=by
 cases h with
 | tup e l f=>exact⟨_,_,rfl,e,l,f⟩
end
def SqF (K:PySem.W.Frag)(H:Hp)(a:Addr)(xs:List V):Prop:=
 (∃o,H a=some (.frz o (.lst xs)))∨
  ∃(o:Obj) (its:Array Value) (n:Nat),K.lookup a=some o∧o.cls=.type "list"∧o.dict=none∧o.data=.seq its n∧its.size≤sizeLine∧zaw xs its.toList
theorem SqF.sql {K:PySem.W.Frag}{H:Hp}{a:Addr}{xs:List V}(h:SqF K H a xs):SqL K H a xs:=by
 rcases h with ⟨o,h⟩ | h
 ·exact .inl (.inr ⟨o,h⟩)
 ·exact .inr h
def FR {α:Type}(r:List Addr)(H:Hp)(fs:List (α×D))(fs':List (α×V)):Prop:=fs.map (·.1)=fs'.map (·.1)∧Rps r H (fs.map (·.2)) (fs'.map (·.2))
theorem FR.ext {α:Type}{r r':List Addr}{H H':Hp}{fs:List (α×D)}{fs':List (α×V)}(h:FR r H fs fs')(e:Ext r r' H H'):FR r' H' fs fs':=⟨h.1,h.2.ext e⟩
theorem FR.nil {α:Type}{r:List Addr}{H:Hp}:FR (α:=α) r H [] []:=⟨rfl,Rps.nil⟩
def ObR (K:PySem.W.Frag)(r:List Addr)(H:Hp)(a:Addr):Ob→Prop
 | .lst ds=>∃xs,H a=some (.lst xs)∧Rps r H ds xs
 | .frz ds=>∃xs,SqF K H a xs∧Rps r H ds xs
 | .ins C fs=>∃dx fs',H a=some (.ins C dx fs')∧FR r H fs fs'
 | .dct kvs=>∃kvs',H a=some (.dT kvs')∧FR r H kvs kvs'
def zc6:Ob→Bool
 | .frz _=>false
 | _=>true
structure zaR (K:PySem.W.Frag)(r:List Addr)(S:Sto)(H:Hp):Prop where
 len:r.length=S.length
 ob:∀(n:Nat) (a:Addr) (o:Ob),r[n]?=some a→S[n]?=some o→ObR K r H a o
 nd:∀(n m:Nat) (a:Addr) (o u:Ob),r[n]?=some a→r[m]?=some a→S[n]?=some o→S[m]?=some u→zc6 o=true→zc6 u=true→n=m
def zav:Ob→List D
 | .lst ds=>ds
 | .frz ds=>ds
 | _=>[.exc 0]
def zbC:Ob→Option Ob
 | .lst ds=>some (.lst ds)
 | .frz ds=>some (.frz ds)
 | _=>none
def lAt (S:Sto)(n:Nat):Option Ob:=(S[n]?).bind zbC
theorem zsv {o u:Ob}(h:zbC o=some u):u=o:=by
 cases o <;> simp[zbC] at h <;> exact h.symm
theorem zcx {S:Sto}{n:Nat}{o:Ob}(h:lAt S n=some o):S[n]?=some o∧zbC o=some o:=by
  unfold lAt at h
  cases q:S[n]? with
  | none=>
   rw[q] at h
   cases h
  | some u=>
    rw[q] at h
    have h':zbC u=some o:=h
    have e:=zsv h'
    subst e
    exact⟨rfl,h'⟩
theorem za8 {S:Sto}{n:Nat}{o:Ob}(h:S[n]?=some o)(hL:zbC o=some o):lAt S n=some o:=by
 unfold lAt
 rw[h]
 exact hL
section
variable {K:PySem.W.Frag}{r r':List Addr}{S:Sto}{H H':Hp}{n:Nat}{a p:Addr}
theorem zaR.at {o:Ob}(h:zaR K r S H)(e:S[n]?=some o):∃a,r[n]?=some a∧ObR K r H a o:=by
 have hn:n<S.length:=(Vad.mp e).1
 have hr:n<r.length:=by rw[h.len]; exact hn
 exact⟨r[n],by simp[hr],h.ob n r[n] o (by simp[hr]) e⟩
theorem ObR.list {o:Ob}(h:ObR K r H a o)(hL:zbC o=some o):∃xs,SqL K H a xs∧Rps r H (zav o) xs:=by
 cases o with
 | lst ds=>obtain⟨xs,e,q⟩:=h; exact⟨xs,SqL.of e,q⟩
 | frz ds=>obtain⟨xs,e,q⟩:=h; exact⟨xs,e.sql,q⟩
 | ins C fs=>cases hL
 | dct kvs=>cases hL
theorem ObR.keep {o:Ob}(q:ObR K r H a o)(x:Ext r r' H H')(ha:∀u,H a=some u→H' a=some u):ObR K r' H' a o:=by
 cases o with
 | lst ds=>obtain⟨xs,h3,h4⟩:=q; exact⟨xs,ha _ h3,h4.ext x⟩
 | frz ds=>
  obtain⟨xs,h3,h4⟩:=q
  refine⟨xs,?_,h4.ext x⟩
  rcases h3 with ⟨o,h3⟩ | h3
  ·exact .inl ⟨o,ha _ h3⟩
  ·exact .inr h3
 | ins C fs=>obtain⟨dx,fs',h3,h4⟩:=q; exact⟨dx,fs',ha _ h3,h4.ext x⟩
 | dct kvs=>obtain⟨ks,h3,h4⟩:=q; exact⟨ks,ha _ h3,h4.ext x⟩
theorem ObR.own {o:Ob}(q:ObR K r H a o)(h:zc6 o=true):∃u,H a=some u∧(∀xs,u≠HO.tup xs)∧(∀b c,u≠isX b c)∧∀z y,u≠HO.frz z y:=by
 cases o with
 | lst ds=>obtain⟨xs,h3,h4⟩:=q; exact⟨_,h3,(λ_ z=>by cases z),(λ_ _ z=>by cases z),(λ_ _ z=>by cases z)⟩
 | frz ds=>cases h
 | ins C fs=>obtain⟨dx,fs',h3,h4⟩:=q; exact⟨_,h3,(λ_ z=>by cases z),(λ_ _ z=>by cases z),(λ_ _ z=>by cases z)⟩
 | dct kvs=>obtain⟨ks,h3,h4⟩:=q; exact⟨_,h3,(λ_ z=>by cases z),(λ_ _ z=>by cases z),(λ_ _ z=>by cases z)⟩
theorem zaR.same (h:zaR K r S H)(e:∀b o,H b=some o→H' b=some o):zaR K r S H':=
 ⟨h.len,λn a o h1 h2=>(h.ob n a o h1 h2).keep ⟨λ_ _ q=>q,λa xs q=>e _ _ q,λa c q=>e _ _ q⟩ (e a),h.nd⟩
theorem zg1 {o:HO}(h:H p=none):∀b u,H b=some u→(upd H p o) b=some u:=λb u q=>by rw[za4 (zdd q h)]; exact q
theorem zhk {n:Nat}{b:Addr}(e:(r++[p])[n]?=some b):(n<r.length∧r[n]?=some b)∨(n=r.length∧b=p):=by
 by_cases hn:n<r.length
 ·rw[Var hn] at e; exact .inl ⟨hn,e⟩
 ·have hl:n<(r++[p]).length:=(Vad.mp e).1
  have en:n=r.length:=by simp at hl; omega
  subst en
  rw[VaV (Vaa _)] at e
  simp at e
  exact .inr ⟨rfl,e.symm⟩
theorem zaR.pushO {o:Ob}(h:zaR K r S H)(hp:H p=none)(keep:∀b u,H b=some u→H' b=some u)(q:Ext r (r++[p]) H H'→ObR K (r++[p]) H' p o):zaR K (r++[p]) (S++[o]) H'∧Ext r (r++[p]) H H':=by
 have x:Ext r (r++[p]) H H':=⟨λn a e=>by
  have hn:n<r.length:=(Vad.mp e).1
  rw[Var hn]; exact e,λa ys e=>keep _ _ e,λa c e=>keep _ _ e⟩
 have sS:∀ {n:Nat} {u:Ob},n<r.length→(S++[o])[n]?=some u→S[n]?=some u:=λ{n u} hn e=>by
  rw[Var (by rw[← h.len]; exact hn)] at e; exact e
 refine⟨⟨by simp[h.len],λn a u h1 h2=>?_,λn m a u w h1 h2 h3 h4 o1 o2=>?_⟩,x⟩
 ·rcases zhk h1 with ⟨hn,e⟩ | ⟨rfl,rfl⟩
  ·exact(h.ob n a u e (sS hn h2)).keep x (keep a)
  ·rw[h.len,VaV (Vaa _)] at h2
   simp at h2
   subst h2
   exact q x
 ·rcases zhk h1 with ⟨hn,e⟩ | ⟨rfl,rfl⟩
  ·rcases zhk h2 with ⟨hm,e'⟩ | ⟨rfl,rfl⟩
   ·exact h.nd n m a u w e e' (sS hn h3) (sS hm h4) o1 o2
   ·obtain⟨zs,h5,_⟩:=(h.ob n _ _ e (sS hn h3)).own o1
    rw[hp] at h5; cases h5
  ·rcases zhk h2 with ⟨hm,e'⟩ | ⟨rfl,_⟩
   ·obtain⟨zs,h5,_⟩:=(h.ob m _ _ e' (sS hm h4)).own o2
    rw[hp] at h5; cases h5
   ·rfl
theorem zaR.push {ds:List D}{xs:List V}(h:zaR K r S H)(hp:H p=none)(q:Rps r H ds xs):zaR K (r++[p]) (S++[.lst ds]) (upd H p (.lst xs))∧Ext r (r++[p]) H (upd H p (.lst xs)):=
 h.pushO hp (zg1 hp) λx=>⟨xs,zc0,q.ext x⟩
theorem zaR.setO {o o':Ob}{u:HO}(h:zaR K r S H)(hn:r[n]?=some a)(hS:S[n]?=some o)(ho:zc6 o=true)(ho':zc6 o'=true)(q:Ext r r H (upd H a u)→ObR K r (upd H a u) a o'):zaR K r (S.set n o') (upd H a u)∧Ext r r H (upd H a u):=by
 obtain⟨u0,h0,t1,t2,t3⟩:=(h.ob n a _ hn hS).own ho
 have x:Ext r r H (upd H a u):=⟨λ_ _ e=>e,λb zs e=>by
  rw[za4 (zkX e h0 (λz=>t1 zs z.symm))]; exact e,λb c e=>by
  rw[za4 (zkX e h0 (λz=>t2 b c z.symm))]; exact e⟩
 have hlt:n<S.length:=(Vad.mp hS).1
 have off:∀ {m:Nat} {w:Ob},m≠n→(S.set n o')[m]?=some w→S[m]?=some w:=λ{m w} hm e=>by
  rw[VaI (Ne.symm hm)] at e; exact e
 refine⟨⟨by simp[h.len],λm b w h1 h2=>?_,λm k b w y h1 h2 h3 h4 o1 o2=>?_⟩,x⟩
 ·by_cases hm:m=n
  ·subst hm
   rw[hn] at h1; cases h1
   rw[VaO hlt] at h2
   cases h2
   exact q x
  ·have h2':=off hm h2
   have q':=h.ob m b w h1 h2'
   by_cases hw:zc6 w=true
   ·have hb:b≠a:=λz=>hm (by subst z; exact h.nd m n b w o h1 hn h2' hS hw ho)
    exact q'.keep x λz e=>by rw[za4 hb]; exact e
   ·cases w with
    | frz es=>
     obtain⟨zs,h3,h4⟩:=q'
     refine⟨zs,?_,h4.ext x⟩
     rcases h3 with ⟨z,h3⟩ | h3
     ·exact .inl ⟨z,by rw[za4 (zkX h3 h0 (λy=>t3 _ _ y.symm))]; exact h3⟩
     ·exact .inr h3
    | _=>exact absurd rfl hw
 ·have back:∀ {j:Nat} {w:Ob},(S.set n o')[j]?=some w→zc6 w=true→∃y,S[j]?=some y∧zc6 y=true:=λ{j w} e ow=>by
   by_cases hj:j=n
   ·subst hj; exact⟨o,hS,ho⟩
   ·exact⟨w,off hj e,ow⟩
  obtain⟨us',h3',q3⟩:=back h3 o1
  obtain⟨ws',h4',q4⟩:=back h4 o2
  exact h.nd m k b us' ws' h1 h2 h3' h4' q3 q4
theorem zaR.set {ds ds':List D}{xs:List V}(h:zaR K r S H)(hn:r[n]?=some a)(hS:S[n]?=some (.lst ds))(q:Rps r H ds' xs):zaR K r (S.set n (.lst ds')) (upd H a (.lst xs))∧Ext r r H (upd H a (.lst xs)):=
 h.setO hn hS rfl rfl λx=>⟨xs,zc0,q.ext x⟩
end
def Rs (r:List Addr)(H:Hp)(dl:Ev)(σ:St):Prop:=dl.length=σ.length∧∀(i:Nat) (d:D),dl[i]?=some (some d)→∃v,σ[i]?=some (some v)∧Rp r H d v
theorem Rs.ext {r r':List Addr}{H H':Hp}{dl:Ev}{σ:St}(h:Rs r H dl σ)(e:Ext r r' H H'):Rs r' H' dl σ:=⟨h.1,λi d q=>by
 obtain⟨v,h1,h2⟩:=h.2 i d q
 exact⟨v,h1,h2.ext e⟩⟩
theorem Rs.set {r:List Addr}{H:Hp}{dl:Ev}{σ:St}{d:D}{v:V}(i:Nat)(h:Rs r H dl σ)(q:Rp r H d v):Rs r H (dl.set i (some d)) (σ.set i (some v)):=by
 refine⟨by simp[h.1],λj e hj=>?_⟩
 by_cases hij:i=j
 ·subst hij
  have hl:i<dl.length:=by
   have:=(Vad.mp hj).1
   simpa using this
  rw[VaO hl] at hj
  cases hj
  exact⟨v,by rw[VaO (by rw[← h.1]; exact hl)],q⟩
 ·rw[VaI hij] at hj
  obtain⟨v',h1,h2⟩:=h.2 j e hj
  exact⟨v',by rw[VaI hij]; exact h1,h2⟩
structure Zx where
 ex:Ev→Addr→Sto→Prop
 w:St→XK
abbrev Zc (ex:Addr→Sto→Prop)(E:XK):Zx:=⟨λ_=>ex,λ_=>E⟩
def zdz (K:PySem.W.Frag)(Z:Zx)(r:List Addr)(H:Hp):Prop:=∀(dl:Ev) (σ:St) (c:Addr) (H':Hp) (r':List Addr) (S':Sto),Ext r r' H H'→Rs r' H' dl σ→zaR K r' S' H'→Z.ex dl c S'→Z.w σ (.ref c) none H'
theorem zdz.ext {K:PySem.W.Frag}{Z:Zx}{r r':List Addr}{H H':Hp}(h:zdz K Z r H)(e:Ext r r' H H'):zdz K Z r' H':=λdl σ c H2 r2 S2 x=>h dl σ c H2 r2 S2 (e.trans x)
structure Rel (K:PySem.W.Frag)(Z:Zx)(r:List Addr)(S:Sto)(H:Hp):Prop where
 b:zaR K r S H
 xw:zdz K Z r H
section
variable {K:PySem.W.Frag}{Z:Zx}{r r':List Addr}{S:Sto}{H H':Hp}{n:Nat}{a p:Addr}
theorem Rel.len (h:Rel K Z r S H):r.length=S.length:=h.b.len
theorem Rel.at {o:Ob}(h:Rel K Z r S H)(e:S[n]?=some o):∃a,r[n]?=some a∧ObR K r H a o:=h.b.at e
theorem Rel.same (h:Rel K Z r S H)(e:∀b o,H b=some o→H' b=some o):Rel K Z r S H':=⟨h.b.same e,h.xw.ext ⟨λ_ _ q=>q,λa xs q=>e _ _ q,λa c q=>e _ _ q⟩⟩
theorem Rel.push {ds:List D}{xs:List V}(h:Rel K Z r S H)(hp:H p=none)(q:Rps r H ds xs):Rel K Z (r++[p]) (S++[.lst ds]) (upd H p (.lst xs))∧Ext r (r++[p]) H (upd H p (.lst xs)):=by
 obtain⟨h1,h2⟩:=h.b.push hp q
 exact⟨⟨h1,h.xw.ext h2⟩,h2⟩
theorem Rel.set {ds ds':List D}{xs:List V}(h:Rel K Z r S H)(hn:r[n]?=some a)(hS:S[n]?=some (.lst ds))(q:Rps r H ds' xs):Rel K Z r (S.set n (.lst ds')) (upd H a (.lst xs))∧Ext r r H (upd H a (.lst xs)):=by
 obtain⟨h1,h2⟩:=h.b.set hn hS q
 exact⟨⟨h1,h.xw.ext h2⟩,h2⟩
end
def Ret (K:PySem.W.Frag)(Z:Zx)(r:List Addr)(H:Hp)(Q:DK)(Qv:VK):Prop:=∀v H' r' d S',Ext r r' H H'→Rel K Z r' S' H'→Rp r' H' d v→Q d S'→Qv v H'
theorem Ret.ext {K:PySem.W.Frag}{Z:Zx}{r r':List Addr}{H H':Hp}{Q:DK}{Qv:VK}(h:Ret K Z r H Q Qv)(e:Ext r r' H H'):Ret K Z r' H' Q Qv:=λv H2 r2 d S2 x=>h v H2 r2 d S2 (e.trans x)
def up (K:PySem.W.Frag)(Z:Zx)(t:TDE):TE:=λσ H Qv=>∃r dl S Q,Rs r H dl σ∧Rel K Z r S H∧t dl S Q∧Ret K Z r H Q Qv
def upT (K:PySem.W.Frag)(Z:Zx)(t:TDT):TT:=λσ H Qb=>∃r dl S Q,Rs r H dl σ∧Rel K Z r S H∧t dl S Q∧∀b H' r' S',Ext r r' H H'→Rel K Z r' S' H'→Q b S'→Qb b H'
def upA (K:PySem.W.Frag)(Z:Zx)(t:TDA):TA:=λσ H Qv=>∃r dl S Q,Rs r H dl σ∧Rel K Z r S H∧t dl S Q∧∀vs H' r' ds S',Ext r r' H H'→Rel K Z r' S' H'→Rps r' H' ds vs→Q ds S'→Qv vs H'
structure zhY (K:PySem.W.Frag)(Z:Zx)(r:List Addr)(H:Hp)(E:zcG)(F:zcH):Prop where
 nx:∀σ' H' r' dl' S',Ext r r' H H'→Rs r' H' dl' σ'→Rel K Z r' S' H'→E.nx dl' S'→F.nx σ' H'
 bk:∀σ' H' r' dl' S',Ext r r' H H'→Rs r' H' dl' σ'→Rel K Z r' S' H'→E.bk dl' S'→F.bk σ' H'
 ct:∀σ' H' r' dl' S',Ext r r' H H'→Rs r' H' dl' σ'→Rel K Z r' S' H'→E.ct dl' S'→F.ct σ' H'
 rt:Ret K Z r H E.rt F.rt
theorem zhY.ext {K:PySem.W.Frag}{Z:Zx}{r r':List Addr}{H H':Hp}{E:zcG}{F:zcH}(h:zhY K Z r H E F)(e:Ext r r' H H'):zhY K Z r' H' E F:=
 ⟨λa b c d f x=>h.nx a b c d f (e.trans x),λa b c d f x=>h.bk a b c d f (e.trans x),λa b c d f x=>h.ct a b c d f (e.trans x),h.rt.ext e⟩
def upS (K:PySem.W.Frag)(Z:Zx)(t:TDS):TS:=λF σ H=>∃r dl S E,Rs r H dl σ∧Rel K Z r S H∧t E dl S∧zhY K Z r H E F
def PD (X:Cx)(Z:Zx)(e:Expr)(t:TDE):Prop:=PE X e (up X.K Z t)
def PDT (X:Cx)(Z:Zx)(e:Expr)(t:TDT):Prop:=PT X e (upT X.K Z t)
def PDW (X:Cx)(Z:Zx)(e:Expr)(t:TDT):Prop:=PW X e (upT X.K Z t)
def PDA (X:Cx)(Z:Zx)(es:List Expr)(t:TDA):Prop:=PA X es (upA X.K Z t)
def PDS (X:Cx)(Z:Zx)(st:Stmt)(t:TDS):Prop:=PS X st (upS X.K Z t)
def zcu (X:Cx)(Z:Zx)(st:List Stmt)(t:TDS):Prop:=PSs X st (upS X.K Z t)
section
variable {X:Cx}{Z:Zx}
theorem za3 {e:Expr}{t t':TE}(h:PE X e t)(f:∀σ H Q,t' σ H Q→t σ H Q):PE X e t':=λpins s σ H Q I q=>h pins s σ H Q I (f σ H Q q)
theorem zie {e:Expr}{t t':TT}(h:PT X e t)(f:∀σ H Q,t' σ H Q→t σ H Q):PT X e t':=λpins s σ H Q I q=>h pins s σ H Q I (f σ H Q q)
theorem zms {e:Expr}{t t':TT}(h:PW X e t)(f:∀σ H Q,t' σ H Q→t σ H Q):PW X e t':=λwh pins s σ H Q I q=>h wh pins s σ H Q I (f σ H Q q)
theorem zmo {e:List Expr}{t t':TA}(h:PA X e t)(f:∀σ H Q,t' σ H Q→t σ H Q):PA X e t':=λpos pins s σ H Q I q=>h pos pins s σ H Q I (f σ H Q q)
theorem zcp {e:Stmt}{t t':TS}(h:PS X e t)(f:∀F σ H,t' F σ H→t F σ H):PS X e t':=λpins s σ H F I q=>h pins s σ H F I (f F σ H q)
theorem znw {e:List Stmt}{t t':TS}(h:PSs X e t)(f:∀F σ H,t' F σ H→t F σ H):PSs X e t':=λpins s σ H F I q=>h pins s σ H F I (f F σ H q)
theorem PDW.pt {e:Expr}{t:TDT}(h:PDW X Z e t):PDT X Z e t:=PW.pt h
def zjM (i:Nat):TDE:=λdl S Q=>match dl[i]? with
 | some (some d)=>Q d S
 | _=>False
def dC (d:D):TDE:=λ_ S Q=>Q d S
theorem zo9 {e:Expr}{i:Nat}(h:PE X e (tVar i)):PD X Z e (zjM i):=za3 h λσ H Qv ⟨r,dl,S,Q,rs,rel,q,ret⟩=>by
 unfold zjM at q
 split at q
 ·rename_i d e
  obtain⟨v,h1,h2⟩:=rs.2 i d e
  exact⟨v,h1,ret v H r d S Ext.refl rel h2 q⟩
 ·exact q.elim
theorem dv (i:Nat){x:Str}{pos:Pos}(hN:X.N[i]?=some x:=by rfl)(hv:Vis X.env.scope x:=by first | exact Or.inl rfl | exact Or.inr (Or.inl rfl) | exact Or.inr (Or.inr rfl))(hd:(x==("__debug__":Str))=false:=by decide)
  (hcd:(x==("__classdict__":Str))=false:=by decide):PD X Z (.Name x pos) (zjM i):=zo9 (zmG hN hv hd hcd)
theorem zhG {e:Expr}{d:D}{v:V}(h:PE X e (tC v))(q:∀r H,Rp r H d v):PD X Z e (dC d):=za3 h λσ H Qv ⟨r,dl,S,Q,rs,rel,h,ret⟩=>ret v H r d S Ext.refl rel (q r H) h
theorem zab {i j pos}:PD X Z (.Constant (.int i) j pos) (dC (.int i)):=zhG zoT λ_ _=>.int i
theorem zdk {b j pos}:PD X Z (.Constant (.bool b) j pos) (dC (.bl b)):=zhG pe_bl λ_ _=>.bl b
theorem zaF {j pos}:PD X Z (.Constant .none j pos) (dC .non):=zhG znL λ_ _=>.non
theorem za9 {x j pos}:PD X Z (.Constant (.str x) j pos) (dC (.str x)):=zhG zqJ λ_ _=>.str x
abbrev W2:=D→D→Sto→DK→Prop
abbrev W1:=D→Sto→DK→Prop
def upO (K:PySem.W.Frag)(Z:Zx)(w:W2):R2:=λx y H Qv=>∃r S dx dy Q,Rel K Z r S H∧Rp r H dx x∧Rp r H dy y∧w dx dy S Q∧Ret K Z r H Q Qv
def upU (K:PySem.W.Frag)(Z:Zx)(w:W1):V→Hp→VK→Prop:=λx H Qv=>∃r S dx Q,Rel K Z r S H∧Rp r H dx x∧w dx S Q∧Ret K Z r H Q Qv
def dOp (w:W2)(ta tb:TDE):TDE:=λdl S Q=>ta dl S λx S1=>tb dl S1 λy S2=>w x y S2 Q
def dUn (w:W1)(ta:TDE):TDE:=λdl S Q=>ta dl S λx S1=>w x S1 Q
variable {a b c:Expr}{ta tb tc:TDE}{pos:Pos}
theorem zi9 {w:W2}{σ:St}{H:Hp}{Qv:VK}(h:up X.K Z (dOp w ta tb) σ H Qv):tOp (upO X.K Z w) (up X.K Z ta) (up X.K Z tb) σ H Qv:=by
 obtain⟨r,dl,S,Q,rs,rel,h,ret⟩:=h
 exact⟨r,dl,S,_,rs,rel,h,λv H1 r1 dx S1 e1 rel1 p1 h1=>⟨r1,dl,S1,_,rs.ext e1,rel1,h1,λv2 H2 r2 dy S2 e2 rel2 p2 h2=>⟨r2,S2,dx,dy,Q,rel2,p1.ext e2,p2,h2,ret.ext (e1.trans e2)⟩⟩⟩
theorem zag {op:Operator}{w:W2}(ho:OpR X (binaryOp op) (upO X.K Z w))(ha:PD X Z a ta)(hb:PD X Z b tb):PD X Z (.BinOp a op b pos) (dOp w ta tb):=za3 (pe_op ho ha hb) λ_ _ _ h=>zi9 h
theorem zaT {op:UnaryOp}{w:W1}(ho:UnR X (unaryOp op) (upU X.K Z w))(ha:PD X Z a ta):PD X Z (.UnaryOp op a pos) (dUn w ta):=za3 (pe_un ho ha) λσ H Qv ⟨r,dl,S,Q,rs,rel,h,ret⟩=>
 ⟨r,dl,S,_,rs,rel,h,λv H1 r1 dx S1 e1 rel1 p1 h1=>⟨r1,S1,dx,Q,rel1,p1,h1,ret.ext e1⟩⟩
theorem zfE {op:CmpOp}{w:W2}(ho:OpR X (compareOp op) (upO X.K Z w))(ha:PD X Z a ta)(hb:PD X Z b tb)(hm:behindInMarks op b=false):PD X Z (.Compare a [op] [b] pos) (dOp w ta tb):=za3 (zqc ho ha hb hm) λ_ _ _ h=>zi9 h
theorem zeb {f:Value→Value→Sem Value}{r r':R2}(h:OpR X f r)(g:∀x y H Q,r' x y H Q→r x y H Q):OpR X f r':=λpins s σ H x y v u Q I rx ry q=>h pins s σ H x y v u Q I rx ry (g x y H Q q)
theorem zst {f:Value→Sem Value}{r r':V→Hp→VK→Prop}(h:UnR X f r)(g:∀x H Q,r' x H Q→r x H Q):UnR X f r':=λpins s σ H x v Q I rx q=>h pins s σ H x v Q I rx (g x H Q q)
theorem zkT {f:Value}{r r':List V→Hp→VK→Prop}(h:za7 X f r)(g:∀x H Q,r' x H Q→r x H Q):za7 X f r':=λpins s σ H xs us Q I rx q=>h pins s σ H xs us Q I rx (g xs H Q q)
def wI (C:Int→Int→Prop)(g:Int→Int→D):W2:=λx y S Q=>match x,y with
 | .int i,.int j=>C i j∧Q (g i j) S
 | _,_=>False
def wI0 (g:Int→Int→D):W2:=λx y S Q=>match x,y with
 | .int i,.int j=>Q (g i j) S
 | _,_=>False
theorem opD {f:Value→Value→Sem Value}{C:Int→Int→Prop}{g:Int→Int→V}{g':Int→Int→D}(h:OpR X f (rI C g))(hg:∀r H i j,Rp r H (g' i j) (g i j)):OpR X f (upO X.K Z (wI C g')):=
 zeb h λx y H Qv ⟨r,S,dx,dy,Q,rel,px,py,q,ret⟩=>by
  cases px <;> cases py <;> first
   | exact⟨_,_,rfl,rfl,q.1,ret _ _ _ _ _ Ext.refl rel (hg _ _ _ _) q.2⟩
   | exact(show False from q).elim
theorem zd6 {f:Value→Value→Sem Value}{g:Int→Int→V}{g':Int→Int→D}(h:OpR X f (rI0 g))(hg:∀r H i j,Rp r H (g' i j) (g i j)):OpR X f (upO X.K Z (wI0 g')):=
 zeb h λx y H Qv ⟨r,S,dx,dy,Q,rel,px,py,q,ret⟩=>by
  cases px <;> cases py <;> first
   | exact⟨_,_,rfl,rfl,ret _ _ _ _ _ Ext.refl rel (hg _ _ _ _) q⟩
   | exact(show False from q).elim
abbrev wAdd:W2:=wI0 λi j=>.int (i+j)
abbrev wSub:W2:=wI0 λi j=>.int (i-j)
abbrev wMul:W2:=wI IntMulOk λi j=>.int (i*j)
def CFd (_ j:Int):Prop:=0<j∧j.natAbs.log2<9000
abbrev wFdiv:W2:=wI CFd λi j=>.int (i/j)
abbrev wMod:W2:=wI (λ_ j=>0<j) λi j=>.int (i%j)
abbrev wPow:W2:=wI zgM λi j=>.int (i^j.toNat)
theorem za5:OpR X (binaryOp .Add) (upO X.K Z wAdd):=zd6 zot λ_ _ _ _=>.int _
theorem zbr:OpR X (binaryOp .Sub) (upO X.K Z wSub):=zd6 znK λ_ _ _ _=>.int _
theorem zaN:OpR X (binaryOp .Mult) (upO X.K Z wMul):=opD (opI λ_ _ _ _ _ _ _ hc q=>mul_int q hc) λ_ _ _ _=>.int _
theorem zby:OpR X (binaryOp .FloorDiv) (upO X.K Z wFdiv):=opD (opI λi j _ _ _ _ _ hc q=>floordiv_int (by have h:0<j:=hc.1; omega) (by have h:0<j:=hc.1; rw[Int.fdiv_eq_ediv_of_nonneg i (by omega)]; exact q) (.inl (PyProof.noPylong_of_log2 hc.2))) λ_ _ _ _=>.int _
theorem zbu:OpR X (binaryOp .Mod) (upO X.K Z wMod):=opD zr4 λ_ _ _ _=>.int _
theorem zqw:OpR X (binaryOp .Pow) (upO X.K Z wPow):=opD zqV λ_ _ _ _=>.int _
abbrev wLt:W2:=wI0 λi j=>.bl (decide (i<j))
abbrev wLe:W2:=wI0 λi j=>.bl (decide (i≤j))
abbrev wGt:W2:=wI0 λi j=>.bl (decide (j<i))
abbrev wGe:W2:=wI0 λi j=>.bl (decide (j≤i))
theorem zbp:OpR X (compareOp .Lt) (upO X.K Z wLt):=zd6 op_lt λ_ _ _ _=>.bl _
theorem zcq:OpR X (compareOp .LtE) (upO X.K Z wLe):=zd6 op_le λ_ _ _ _=>.bl _
theorem zbS:OpR X (compareOp .Gt) (upO X.K Z wGt):=zd6 op_gt λ_ _ _ _=>.bl _
theorem do_ge:OpR X (compareOp .GtE) (upO X.K Z wGe):=zd6 op_ge λ_ _ _ _=>.bl _
def wNeg:W1:=λx S Q=>match x with
 | .int i=>Q (.int (-i)) S
 | _=>False
theorem zaS:UnR X (unaryOp .USub) (upU X.K Z wNeg):=zst zpJ λx H Qv ⟨r,S,dx,Q,rel,px,q,ret⟩=>by
 cases px <;> first
  | exact⟨_,rfl,ret _ _ _ _ _ Ext.refl rel (.int _) q⟩
  | exact(show False from q).elim
end
def eqF:D→D→Option Bool
 | .non,.non=>some true
 | .bl i,.bl j=>some (i==j)
 | .int i,.int j=>some (decide (i=j))
 | .str i,.str j=>some (decide (i=j))
 | .non,.int _=>some false | .int _,.non=>some false | .non,.bl _=>some false | .bl _,.non=>some false | .non,.str _=>some false | .str _,.non=>some false
 | .int _,.str _=>some false | .str _,.int _=>some false | .bl _,.str _=>some false | .str _,.bl _=>some false
 | _,_=>none
def eqL (f:D→D→Option Bool):List D→List D→Option Bool
 | [],[]=>some true
 | x::xs,y::ys=>match f x y,eqL f xs ys with
  | some b,some c=>some (b&&c)
  | _,_=>none
 | _,_=>some false
def eqT (f:D→D→Option Bool):D→D→Option Bool
 | .tup xs,.tup ys=>eqL f xs ys
 | x,y=>eqF x y
abbrev eq1:D→D→Option Bool:=eqT eqF
abbrev eq2:D→D→Option Bool:=eqT eq1
def zc4 (n:Nat)(f:D→D→Option Bool):Prop:=∀(X:Cx) (pins:List (Addr×Obj)) (σ:St) (H:Hp) (s:Shared) (r:List Addr) (A:Around) (dx dy:D) (x y:V) (u v:Value) (b:Bool),
 Inv X pins σ H s→A.units+n<cLine→Rp r H dx x→Rp r H dy y→zax x u→zax y v→f dx dy=some b→SeqAt.EqAt A s u v b
def zee (f:D→D→Option Bool):Prop:=∀(r:List Addr) (H:Hp) (dx dy:D) (x:V) (b:Bool),Rp r H dx x→Rp r H dy x→f dx dy=some b→b=true
theorem zeF:zee eqF:=by
 intro r H dx dy x b px py e
 cases px <;> cases py <;> simp[eqF] at e <;> first | exact e.symm | exact e
theorem zm4 {f:D→D→Option Bool}(hf:zee f){r:List Addr}{H:Hp}:∀ {xs ys:List D} {vs:List V} {b:Bool},Rps r H xs vs→Rps r H ys vs→eqL f xs ys=some b→b=true
 | [],[],_,b,_,_,e=>by simp[eqL] at e; exact e
 | [],y::ys,vs,b,p,q,e=>by
  have h1:=p.unnil
  subst h1
  exact absurd q.1 (by simp)
 | x::xs,[],vs,b,p,q,e=>by
  have h1:=q.unnil
  subst h1
  exact absurd p.1 (by simp)
 | x::xs,y::ys,vs,b,p,q,e=>by
  obtain⟨v,vs',rfl,p1,p2⟩:=p.uncons
  obtain⟨q1,q2⟩:=q.tail
  unfold eqL at e
  split at e
  ·rename_i b1 c1 e1 e2
   have h1:=hf r H x y v b1 p1 q1 e1
   have h2:=zm4 hf p2 q2 e2
   subst h1; subst h2
   simp at e
   exact e
  ·cases e
theorem zm3 {f:D→D→Option Bool}(hf:zee f):zee (eqT f):=by
 intro r H dx dy x b px py e
 cases px with
 | tup e1 l1 f1=>
  cases py with
  | tup e2 l2 f2=>
   rw[e1] at e2; cases e2
   exact zm4 hf ⟨l1,f1⟩ ⟨l2,f2⟩ e
  | ref h=>simp[eqT,eqF] at e
  | exc h=>simp[eqT,eqF] at e
 | non=>exact zeF r H _ _ _ b .non py (by cases py <;> exact e)
 | bl i=>exact zeF r H _ _ _ b (.bl i) py (by cases py <;> exact e)
 | int i=>exact zeF r H _ _ _ b (.int i) py (by cases py <;> exact e)
 | str i=>exact zeF r H _ _ _ b (.str i) py (by cases py <;> exact e)
 | ref h=>cases py <;> simp[eqT,eqF] at e
 | exc h=>cases py <;> simp[eqT,eqF] at e
theorem zli (n:Nat):zc4 n eqF:=by
 intro X pins σ H s r A dx dy x y u v b I hu px py rx ry e
 have fin:∀ {x y:V},zax x u→zax y v→zhU x=true→zhU y=true→eqV x y=b→SeqAt.EqAt A s u v b:=λrx ry fx fy e'=>by
  subst e'; exact znI rx ry fx fy
 cases px <;> cases py <;> simp[eqF] at e <;> refine fin rx ry rfl rfl ?_ <;> simp[eqV,e] <;> first | exact e | (subst e; simp) | skip
theorem zd1 {X:Cx}{pins:List (Addr×Obj)}{σ:St}{H:Hp}{s:Shared}{a:Addr}{xs:List V}(I:Inv X pins σ H s)(h:H a=some (.tup xs)):∃its:List Value,zaw xs its∧IsTup s.heap a its.toArray∧xs.length≤sizeLine:=I.tuple (SqT.of h)
def zcd (f:D→D→Option Bool)(xs ys:List D)(j:Nat):Bool:=match xs[j]?,ys[j]? with
 | some x,some y=>(f x y).getD false
 | _,_=>false
theorem znc {f:D→D→Option Bool}:∀ {xs ys:List D} {b:Bool},eqL f xs ys=some b→(∀(j:Nat) (x y:D),xs[j]?=some x→ys[j]?=some y→∃c,f x y=some c)∧((List.range (min xs.length ys.length)).all (zcd f xs ys)&&xs.length==ys.length)=b
 | [],[],b,e=>by simp[eqL] at e; subst e; simp
 | [],y::ys,b,e=>by simp[eqL] at e; subst e; simp
 | x::xs,[],b,e=>by simp[eqL] at e; subst e; simp
 | x::xs,y::ys,b,e=>by
  unfold eqL at e
  split at e
  ·rename_i b1 c1 e1 e2
   obtain⟨h1,h2⟩:=znc e2
   refine⟨λj p q hp hq=>?_,?_⟩
   ·cases j with
    | zero=>simp at hp hq; subst hp; subst hq; exact⟨b1,e1⟩
    | succ j=>exact h1 j p q (by simpa using hp) (by simpa using hq)
   ·have z:min (x::xs).length (y::ys).length=min xs.length ys.length+1:=by simp[Nat.succ_min_succ]
    rw[z,List.range_succ_eq_map,List.all_cons,List.all_map]
    have e0:zcd f (x::xs) (y::ys) 0=b1:=by simp[zcd,e1]
    have es:(zcd f (x::xs) (y::ys) ∘ Nat.succ)=zcd f xs ys:=by funext j; simp[zcd]
    rw[e0,es]
    have e3:((x::xs).length==(y::ys).length)=(xs.length==ys.length):=by simp
    rw[e3,Bool.and_assoc,h2]
    simp at e
    exact e
  ·cases e
theorem zgB {n:Nat}{f:D→D→Option Bool}(hf:zc4 n f){X:Cx}{pins:List (Addr×Obj)}{σ:St}{H:Hp}{s:Shared}{r:List Addr}{A:Around}{xs ys:List D}{us vs:List V}{is js:List Value}{b:Bool}
  (I:Inv X pins σ H s)(hu:A.units+n<cLine)(p:Rps r H xs us)(q:Rps r H ys vs)(ri:zaw us is)(rj:zaw vs js)(e:eqL f xs ys=some b):
  (∀j (h1:j<is.toArray.size) (h2:j<js.toArray.size),SeqAt.EqAt A s is.toArray[j] js.toArray[j] (zcd f xs ys j))∧((List.range (min is.toArray.size js.toArray.size)).all (zcd f xs ys)&&is.toArray.size==js.toArray.size)=b:=by
 obtain⟨h1,h2⟩:=znc e
 have l1:is.toArray.size=xs.length:=by rw[Val,← ri.length,p.1]
 have l2:js.toArray.size=ys.length:=by rw[Val,← rj.length,q.1]
 refine⟨λj hj1 hj2=>?_,by rw[l1,l2]; exact h2⟩
 have k1:j<xs.length:=by omega
 have k2:j<ys.length:=by omega
 have g1:xs[j]?=some xs[j]:=by simp[k1]
 have g2:ys[j]?=some ys[j]:=by simp[k2]
 obtain⟨x,gx,px⟩:=p.get g1
 obtain⟨y,gy,py⟩:=q.get g2
 obtain⟨u,gu,ru⟩:=ri.get gx
 obtain⟨v,gv,rv⟩:=rj.get gy
 obtain⟨c,hc⟩:=h1 j _ _ g1 g2
 have eu:is.toArray[j]=u:=by
  have z:=Vad.mp gu
  simpa using z.2
 have ev:js.toArray[j]=v:=by
  have z:=Vad.mp gv
  simpa using z.2
 have ec:zcd f xs ys j=c:=by simp[zcd,g1,g2,hc]
 rw[eu,ev,ec]
 exact hf X pins σ H s r A _ _ x y u v c I hu px py ru rv hc
theorem znd {n:Nat}{f:D→D→Option Bool}(hf:zc4 n f)(hs:zee f):zc4 (n+1) (eqT f):=by
 intro X pins σ H s r A dx dy x y u v b I hu px py rx ry e
 have za0:∀ {dx dy:D} {x y:V},Rp r H dx x→Rp r H dy y→zax x u→zax y v→eqF dx dy=some b→SeqAt.EqAt A s u v b:=λpx py rx ry e=>zli (n+1) X pins σ H s r A _ _ _ _ u v b I hu px py rx ry e
 cases px with
 | @tup ds xs a e1 l1 f1=>
  cases py with
  | @tup es ys a' e2 l2 f2=>
   cases rx
   cases ry
   by_cases z:a=a'
   ·subst z
    have hb:=zm3 hs r H _ _ _ b (.tup e1 l1 f1) (.tup e2 l2 f2) e
    subst hb
    exact SeqAt.EqAt.same _
   ·obtain⟨is,ri,ti,_⟩:=zd1 I e1
    obtain⟨js,rj,tj,_⟩:=zd1 I e2
    obtain⟨g1,g2⟩:=zgB (A:=A.in1) hf I (by show A.units+1+n<_; omega) ⟨l1,f1⟩ ⟨l2,f2⟩ ri rj e
    have q:=SeqAt.RcAt.tuples (A:=A) ti tj (by omega) g1
    rw[g2] at q
    exact SeqAt.EqAt.of_refs z q
  | ref h=>simp[eqT,eqF] at e
  | _=>simp[eqT,eqF] at e
 | non=>exact za0 .non py rx ry (by cases py <;> exact e)
 | bl i=>exact za0 (.bl i) py rx ry (by cases py <;> exact e)
 | int i=>exact za0 (.int i) py rx ry (by cases py <;> exact e)
 | str i=>exact za0 (.str i) py rx ry (by cases py <;> exact e)
 | ref h=>cases py <;> simp[eqT,eqF] at e
 | exc h=>cases py <;> simp[eqT,eqF] at e
theorem zmu (n:Nat):zc4 (n+1) eq1:=znd (zli n) zeF
def wEq (f:D→D→Option Bool):W2:=λx y S Q=>match f x y with
 | some b=>Q (.bl b) S
 | none=>False
def wNe (f:D→D→Option Bool):W2:=λx y S Q=>match f x y with
 | some b=>Q (.bl (!b)) S
 | none=>False
section
variable {X:Cx}{Z:Zx}
theorem zlQ {r:List Addr}{H:Hp}{dx dy:D}{x y:V}{b:Bool}(px:Rp r H dx x)(py:Rp r H dy y)(e:eqF dx dy=some b):zhQ x y=true∧decide (x=y)=b:=by
 cases px <;> cases py <;> simp[eqF] at e <;> simp[zhQ] <;> first | exact e | (subst e; simp) | skip
theorem zsL {n:Nat}{f:D→D→Option Bool}(hf:zc4 n f)(hu:X.A.units+1+n<cLine):OpR X (compareOp .Eq) (upO X.K Z (wEq (eqT f))):=by
 intro pins s σ H x y v u Qv I rx ry h
 obtain⟨r,S,dx,dy,Q,rel,px,py,q,ret⟩:=h
 unfold wEq at q
 split at q
 ·rename_i b e
  have za0:∀ {dx dy:D} {x y:V},Rp r H dx x→Rp r H dy y→zax x v→zax y u→eqF dx dy=some b→wpAny (model X.prog X.w) X.A (compareOp .Eq v u) (EP X pins σ Qv) X.xe s:=λpx py rx ry e=>by
   obtain⟨h1,h2⟩:=zlQ px py e
   refine zkM pins s σ H _ _ v u Qv I rx ry ⟨h1,?_⟩
   rw[h2]
   exact ret _ _ _ _ _ Ext.refl rel (.bl b) q
  cases px with
  | @tup ds xs a e1 l1 f1=>
   cases py with
   | @tup es ys a' e2 l2 f2=>
    cases rx
    cases ry
    obtain⟨is,ri,ti,_⟩:=zd1 I e1
    obtain⟨js,rj,tj,_⟩:=zd1 I e2
    obtain⟨g1,g2⟩:=zgB (A:=X.A.in1) hf I (by show X.A.units+1+n<_; omega) ⟨l1,f1⟩ ⟨l2,f2⟩ ri rj e
    refine SeqAt.eq_tupleAt (A:=X.A) ti tj (by omega) g1 ?_
    rw[g2]
    exact⟨.bl b,H,I,rfl,ret _ _ _ _ _ Ext.refl rel (.bl b) q⟩
   | _=>simp[eqT,eqF] at e
  | non=>exact za0 .non py rx ry (by cases py <;> exact e)
  | bl i=>exact za0 (.bl i) py rx ry (by cases py <;> exact e)
  | int i=>exact za0 (.int i) py rx ry (by cases py <;> exact e)
  | str i=>exact za0 (.str i) py rx ry (by cases py <;> exact e)
  | ref h=>cases py <;> simp[eqT,eqF] at e
  | exc h=>cases py <;> simp[eqT,eqF] at e
 ·exact q.elim
theorem zmM {n:Nat}{f:D→D→Option Bool}(hf:zc4 n f)(hu:X.A.units+1+n<cLine):OpR X (compareOp .NotEq) (upO X.K Z (wNe (eqT f))):=by
 intro pins s σ H x y v u Qv I rx ry h
 obtain⟨r,S,dx,dy,Q,rel,px,py,q,ret⟩:=h
 unfold wNe at q
 split at q
 ·rename_i b e
  have za0:∀ {dx dy:D} {x y:V},Rp r H dx x→Rp r H dy y→zax x v→zax y u→eqF dx dy=some b→wpAny (model X.prog X.w) X.A (compareOp .NotEq v u) (EP X pins σ Qv) X.xe s:=λpx py rx ry e=>by
   obtain⟨h1,h2⟩:=zlQ px py e
   refine op_ne pins s σ H _ _ v u Qv I rx ry ⟨h1,?_⟩
   rw[h2]
   exact ret _ _ _ _ _ Ext.refl rel (.bl (!b)) q
  cases px with
  | @tup ds xs a e1 l1 f1=>
   cases py with
   | @tup es ys a' e2 l2 f2=>
    cases rx
    cases ry
    obtain⟨is,ri,ti,_⟩:=zd1 I e1
    obtain⟨js,rj,tj,_⟩:=zd1 I e2
    obtain⟨g1,g2⟩:=zgB (A:=X.A.in1) hf I (by show X.A.units+1+n<_; omega) ⟨l1,f1⟩ ⟨l2,f2⟩ ri rj e
    refine SeqAt.RcNeAt.tuples (A:=X.A) ti tj (by omega) g1 X.prog X.w _ _ ?_
    rw[g2]
    exact⟨.bl (!b),H,I,rfl,ret _ _ _ _ _ Ext.refl rel (.bl (!b)) q⟩
   | _=>simp[eqT,eqF] at e
  | non=>exact za0 .non py rx ry (by cases py <;> exact e)
  | bl i=>exact za0 (.bl i) py rx ry (by cases py <;> exact e)
  | int i=>exact za0 (.int i) py rx ry (by cases py <;> exact e)
  | str i=>exact za0 (.str i) py rx ry (by cases py <;> exact e)
  | ref h=>cases py <;> simp[eqT,eqF] at e
  | exc h=>cases py <;> simp[eqT,eqF] at e
 ·exact q.elim
theorem zaI {k:Nat}(hr:zaE k X.A):OpR X (compareOp .Eq) (upO X.K Z (wEq eq2)):=zsL (zmu 0) (by have:=hr.un; omega)
theorem zdg {k:Nat}(hr:zaE k X.A):OpR X (compareOp .NotEq) (upO X.K Z (wNe eq2)):=zmM (zmu 0) (by have:=hr.un; omega)
end
section
variable {X:Cx}{Z:Zx}{a b c:Expr}{ta tb tc:TDE}{pos:Pos}{zba:List Expr}
def zhC (t:TDE):TDT:=λdl S Q=>t dl S λd S'=>match d with
 | .bl k=>Q k S'
 | _=>False
theorem zlJ {K:PySem.W.Frag}{Z:Zx}{r:List Addr}{H:Hp}{Q:Bool→Sto→Prop}{Qb:Bool→Hp→Prop}(h:∀b H' r' S',Ext r r' H H'→Rel K Z r' S' H'→Q b S'→Qb b H'):
  Ret K Z r H (λd S'=>match d with | .bl k=>Q k S' | _=>False) (λx H'=>∃k,x=.bl k∧Qb k H'):=λv H' r' d S' e rel p q=>by
 cases p with
 | bl k=>exact⟨k,rfl,h k H' r' S' e rel q⟩
 | _=>exact(show False from q).elim
theorem zan {op:CmpOp}{w:W2}(ho:OpR X (compareOp op) (upO X.K Z w))(ha:PD X Z a ta)(hb:PD X Z b tb)(hm:behindInMarks op b=false):PDT X Z (.Compare a [op] [b] pos) (zhC (dOp w ta tb)):=
 zie (zod ho ha hb hm) λσ H Qb ⟨r,dl,S,Q,rs,rel,h,ret⟩=>zi9 ⟨r,dl,S,_,rs,rel,h,zlJ ret⟩
theorem zcP {e:Expr}{t:TDE}(h:PD X Z e t)(he:∀whole,isTrue e X.env whole=(do let v ← whole; standAt e.pos; holding [v] (truthy v)):=by intro _; rfl):PDT X Z e (zhC t):=
 zie (zsf h he) λσ H Qb ⟨r,dl,S,Q,rs,rel,h,ret⟩=>⟨r,dl,S,_,rs,rel,h,zlJ ret⟩
def dNot (t:TDT):TDT:=λdl S Q=>t dl S λk S'=>Q (!k) S'
theorem zdh {t:TDT}(ha:PDT X Z a t):PDT X Z (.UnaryOp .Not a pos) (dNot t):=
 zie (zrZ ha) λσ H Qb ⟨r,dl,S,Q,rs,rel,h,ret⟩=>⟨r,dl,S,_,rs,rel,h,λk H' r' S' e rel' q=>ret (!k) H' r' S' e rel' q⟩
def dAnd (t u:TDT):TDT:=λdl S Q=>t dl S λk S1=>if k=true then u dl S1 Q else Q false S1
def dOr (t u:TDT):TDT:=λdl S Q=>t dl S λk S1=>if k=true then Q true S1 else u dl S1 Q
theorem zfV {t:TDT}(ha:PDT X Z a t):PDW X Z (.BoolOp .And [a] pos) t:=zow ha
theorem zcM {t:TDT}(ha:PDT X Z a t):PDW X Z (.BoolOp .Or [a] pos) t:=zsM ha
theorem zf6 {t u:TDT}(ha:PDT X Z a t)(hb:PDW X Z (.BoolOp .And (b::zba) pos) u):PDW X Z (.BoolOp .And (a::b::zba) pos) (dAnd t u):=
 zms (zru ha hb) λσ H Qb ⟨r,dl,S,Q,rs,rel,h,ret⟩=>⟨r,dl,S,_,rs,rel,h,λk H1 r1 S1 e1 rel1 q1=>by
  cases k with
  | true=>exact zch ⟨r1,dl,S1,Q,rs.ext e1,rel1,(by simpa using q1),λk' H2 r2 S2 e2=>ret k' H2 r2 S2 (e1.trans e2)⟩
  | false=>exact zb3 (ret false H1 r1 S1 e1 rel1 (by simpa using q1))⟩
theorem zca {t u:TDT}(ha:PDT X Z a t)(hb:PDW X Z (.BoolOp .Or (b::zba) pos) u):PDW X Z (.BoolOp .Or (a::b::zba) pos) (dOr t u):=
 zms (pw_or ha hb) λσ H Qb ⟨r,dl,S,Q,rs,rel,h,ret⟩=>⟨r,dl,S,_,rs,rel,h,λk H1 r1 S1 e1 rel1 q1=>by
  cases k with
  | true=>exact zch (ret true H1 r1 S1 e1 rel1 (by simpa using q1))
  | false=>exact zb3 ⟨r1,dl,S1,Q,rs.ext e1,rel1,(by simpa using q1),λk' H2 r2 S2 e2=>ret k' H2 r2 S2 (e1.trans e2)⟩⟩
def zmS (ta tb:TDE):TDE:=λdl S Q=>ta dl S λx S1=>match x with
 | .bl k=>if k=true then tb dl S1 Q else Q (.bl false) S1
 | _=>False
def dOrV (ta tb:TDE):TDE:=λdl S Q=>ta dl S λx S1=>match x with
 | .bl k=>if k=true then Q (.bl true) S1 else tb dl S1 Q
 | _=>False
def zmm (ta:TDE):TDE:=λdl S Q=>ta dl S λx S1=>match x with
 | .bl k=>Q (.bl (!k)) S1
 | _=>False
theorem zmi {op}{t:TDE}(h:PD X Z a t):PD X Z (.BoolOp op [a] pos) t:=zq5 h
theorem zkI (ha:PD X Z a ta)(hb:PD X Z (.BoolOp .And (b::zba) pos) tb):PD X Z (.BoolOp .And (a::b::zba) pos) (zmS ta tb):=
 za3 (zoo ha hb) λσ H Qv ⟨r,dl,S,Q,rs,rel,h,ret⟩=>⟨r,dl,S,_,rs,rel,h,λv H1 r1 d S1 e1 rel1 p q1=>by
  cases p with
  | bl k=>
   refine⟨k,rfl,?_⟩
   cases k with
   | true=>exact zch ⟨r1,dl,S1,Q,rs.ext e1,rel1,(by simpa using q1),ret.ext e1⟩
   | false=>exact zb3 (ret _ H1 r1 (.bl false) S1 e1 rel1 (.bl false) (by simpa using q1))
  | _=>exact(show False from q1).elim⟩
theorem zsq (ha:PD X Z a ta):PD X Z (.UnaryOp .Not a pos) (zmm ta):=
 za3 (zpc ha) λσ H Qv ⟨r,dl,S,Q,rs,rel,h,ret⟩=>⟨r,dl,S,_,rs,rel,h,λv H1 r1 d S1 e1 rel1 p q1=>by
  cases p with
  | bl k=>exact⟨k,rfl,ret _ H1 r1 (.bl (!k)) S1 e1 rel1 (.bl (!k)) q1⟩
  | _=>exact(show False from q1).elim⟩
def dIfE (t:TDT)(ta tb:TDE):TDE:=λdl S Q=>t dl S λk S1=>if k=true then ta dl S1 Q else tb dl S1 Q
theorem zcY {t:TDT}(hc:PDT X Z c t)(ha:PD X Z a ta)(hb:PD X Z b tb):PD X Z (.IfExp c a b pos) (dIfE t ta tb):=
 za3 (zrY hc ha hb) λσ H Qv ⟨r,dl,S,Q,rs,rel,h,ret⟩=>⟨r,dl,S,_,rs,rel,h,λk H1 r1 S1 e1 rel1 q1=>by
  cases k with
  | true=>exact zch ⟨r1,dl,S1,Q,rs.ext e1,rel1,(by simpa using q1),ret.ext e1⟩
  | false=>exact zb3 ⟨r1,dl,S1,Q,rs.ext e1,rel1,(by simpa using q1),ret.ext e1⟩⟩
def zjW (w w':W2)(ta tb tc:TDE):TDE:=λdl S Q=>ta dl S λx S1=>tb dl S1 λy S2=>w x y S2 λz S3=>match z with
 | .bl k=>if k=true then tc dl S3 λu S4=>w' y u S4 Q else Q (.bl false) S3
 | _=>False
theorem znh {w w':W2}{σ:St}{H:Hp}{Qv:VK}(h:up X.K Z (zjW w w' ta tb tc) σ H Qv):zk4 (upO X.K Z w) (upO X.K Z w') (up X.K Z ta) (up X.K Z tb) (up X.K Z tc) σ H Qv:=by
 obtain⟨r,dl,S,Q,rs,rel,h,ret⟩:=h
 refine⟨r,dl,S,_,rs,rel,h,λv H1 r1 dx S1 e1 rel1 p1 h1=>⟨r1,dl,S1,_,rs.ext e1,rel1,h1,λv2 H2 r2 dy S2 e2 rel2 p2 h2=>⟨r2,S2,dx,dy,_,rel2,p1.ext e2,p2,h2,λv3 H3 r3 dz S3 e3 rel3 p3 h3=>?_⟩⟩⟩
 cases p3 with
 | bl k=>
  refine⟨k,rfl,?_⟩
  cases k with
  | true=>exact zch ⟨r3,dl,S3,_,rs.ext (e1.trans (e2.trans e3)),rel3,(by simpa using h3),λv4 H4 r4 du S4 e4 rel4 p4 h4=>⟨r4,S4,dy,du,Q,rel4,(p2.ext e3).ext e4,p4,h4,ret.ext (e1.trans (e2.trans (e3.trans e4)))⟩⟩
  | false=>exact zb3 (ret _ H3 r3 (.bl false) S3 (e1.trans (e2.trans e3)) rel3 (.bl false) (by simpa using h3))
 | _=>exact(show False from h3).elim
theorem zpx {op op':CmpOp}{w w':W2}(ho:OpR X (compareOp op) (upO X.K Z w))(ho':OpR X (compareOp op') (upO X.K Z w'))(ha:PD X Z a ta)(hb:PD X Z b tb)(hc:PD X Z c tc)
  (hm:lastMarks [op,op'] [b,c]=false:=by with_unfolding_all rfl):PD X Z (.Compare a [op,op'] [b,c] pos) (zjW w w' ta tb tc):=za3 (zqm ho ho' ha hb hc hm) λ_ _ _ h=>znh h
theorem zkK {op op':CmpOp}{w w':W2}(ho:OpR X (compareOp op) (upO X.K Z w))(ho':OpR X (compareOp op') (upO X.K Z w'))(ha:PD X Z a ta)(hb:PD X Z b tb)(hc:PD X Z c tc)
  (hm:lastMarks [op,op'] [b,c]=false:=by with_unfolding_all rfl):PDT X Z (.Compare a [op,op'] [b,c] pos) (zhC (zjW w w' ta tb tc)):=
 zie (zp3 ho ho' ha hb hc hm) λσ H Qb ⟨r,dl,S,Q,rs,rel,h,ret⟩=>znh ⟨r,dl,S,_,rs,rel,h,zlJ ret⟩
def zh6:D→Bool
 | .non=>true
 | _=>false
def wIsN:W2:=λx y S Q=>match y with
 | .non=>Q (.bl (zh6 x)) S
 | _=>False
def zmz:W2:=λx y S Q=>match y with
 | .non=>Q (.bl (!zh6 x)) S
 | _=>False
theorem zmW {r:List Addr}{H:Hp}{d:D}{x:V}(p:Rp r H d x):decide (x=.non)=zh6 d:=by
 cases p <;> simp[zh6]
theorem zbE:OpR X (compareOp .Is) (upO X.K Z wIsN):=zeb zq2 λx y H Qv ⟨r,S,dx,dy,Q,rel,px,py,q,ret⟩=>by
 cases py with
 | non=>exact⟨rfl,by rw[zmW px]; exact ret _ _ _ _ _ Ext.refl rel (.bl _) q⟩
 | _=>exact(show False from q).elim
theorem zh2:OpR X (compareOp .IsNot) (upO X.K Z zmz):=zeb zsm λx y H Qv ⟨r,S,dx,dy,Q,rel,px,py,q,ret⟩=>by
 cases py with
 | non=>exact⟨rfl,by rw[zmW px]; exact ret _ _ _ _ _ Ext.refl rel (.bl _) q⟩
 | _=>exact(show False from q).elim
variable {e:Expr}{es:List Expr}
def dNil:TDA:=λ_ S Q=>Q [] S
def zmH (ta:TDE)(tr:TDA):TDA:=λdl S Q=>ta dl S λx S1=>tr dl S1 λxs S2=>Q (x::xs) S2
theorem zac:PDA X Z [] dNil:=zmo zgH λσ H Qv ⟨r,dl,S,Q,rs,rel,h,ret⟩=>ret [] H r [] S Ext.refl rel Rps.nil h
theorem zaa {te:TDE}{t:TDA}(ha:PD X Z e te)(hr:PDA X Z es t)(hs:starEach (e::es) X.env=(false,eval e X.env)::starEach es X.env:=by rfl):PDA X Z (e::es) (zmH te t):=
 zmo (zd0 ha hr hs) λσ H Qv ⟨r,dl,S,Q,rs,rel,h,ret⟩=>⟨r,dl,S,_,rs,rel,h,λv H1 r1 d S1 e1 rel1 p1 h1=>⟨r1,dl,S1,_,rs.ext e1,rel1,h1,λvs H2 r2 ds S2 e2 rel2 p2 h2=>
  ret (v::vs) H2 r2 (d::ds) S2 (e1.trans e2) rel2 (Rps.cons (p1.ext e2) p2) h2⟩⟩
def dTup (t:TDA):TDE:=λdl S Q=>t dl S λds S1=>if ds.length≤1000 then Q (.tup ds) S1 else False
def dLst (t:TDA):TDE:=λdl S Q=>t dl S λds S1=>if ds.length≤1000 then Q (.ref S1.length) (S1++[.lst ds]) else False
theorem zjz {A:Prop}{p:Prop} [Decidable p] (h:if p then A else False):p∧A:=by
 split at h
 ·exact⟨by assumption,h⟩
 ·exact h.elim
theorem zkE {n:Nat}(h:n≤1000):n≤sizeLine:=VaN (zkB h)
theorem zaB {x1}{t:TDA}(h:PDA X Z es t):PD X Z (.Tuple es x1 pos) (dTup t):=
 za3 (zqL h) λσ H Qv ⟨r,dl,S,Q,rs,rel,h,ret⟩=>⟨r,dl,S,_,rs,rel,h,λvs H1 r1 ds S1 e1 rel1 p1 h1=>by
  obtain⟨hl,h1⟩:=zjz h1
  refine⟨by rw[← p1.1]; exact zkE hl,λp hp=>?_⟩
  have x:Ext r1 r1 H1 (upd H1 p (.tup vs)):=⟨λ_ _ q=>q,λa xs q=>zg1 hp _ _ q,λa c q=>zg1 hp _ _ q⟩
  exact ret _ _ r1 (.tup ds) S1 (e1.trans x) (rel1.same (zg1 hp)) ((p1.ext x).tupR zc0) h1⟩
theorem zew {r:List Addr}{p:Addr}{H:Hp}{n:Nat}(h:r.length=n):Rp (r++[p]) H (.ref n) (.ref p):=.ref (by subst h; simp)
theorem zbe {t:TDA}(h:PDA X Z es t):PD X Z (.List es pos) (dLst t):=
 za3 (zon h) λσ H Qv ⟨r,dl,S,Q,rs,rel,h,ret⟩=>⟨r,dl,S,_,rs,rel,h,λvs H1 r1 ds S1 e1 rel1 p1 h1=>by
  obtain⟨hl,h1⟩:=zjz h1
  refine⟨by rw[← p1.1]; exact zkE hl,λp hp=>?_⟩
  obtain⟨rel2,x⟩:=rel1.push hp p1
  exact ret _ _ _ (.ref S1.length) _ (e1.trans x) rel2 (zew rel1.len) h1⟩
def wIx:W2:=λx y S Q=>match x,y with
 | .tup xs,.int i=>match atI xs i with
  | some d=>Q d S
  | none=>False
 | .ref n,.int i=>match lAt S n with
  | some o=>match atI (zav o) i with
   | some d=>Q d S
   | none=>False
  | none=>False
 | _,_=>False
theorem zmy {r:List Addr}{H:Hp}{ds:List D}{vs:List V}{i:Int}{d:D}(h:Rps r H ds vs)(e:atI ds i=some d):∃v,atI vs i=some v∧Rp r H d v:=by
  unfold atI at e ⊢
  rw[← h.1]
  cases q:ixN ds.length i with
  | none=>
   rw[q] at e
   cases e
  | some j=>
    rw[q] at e
    exact h.get e
theorem do_ix:IxR X (upO X.K Z wIx):=by
 intro value slice pins s σ H x y v u Qv I rx ry h hs
 obtain⟨r,S,dx,dy,Q,rel,px,py,q,ret⟩:=h
 cases px with
 | @tup ds xs a e1 l1 f1=>
  cases py with
  | int i=>
   have q':(match atI ds i with | some d=>Q d S | none=>False):=q
   split at q'
   ·rename_i d e
    obtain⟨w,hw,pw⟩:=zmy ⟨l1,f1⟩ e
    exact zp5 value slice pins s σ H _ _ v u Qv I rx ry ⟨a,xs,i,w,rfl,rfl,SqT.of e1,hw,ret w H r d S Ext.refl rel pw q'⟩ hs
   ·exact q'.elim
  | _=>exact(show False from q).elim
 | @ref n a e1=>
  cases py with
  | int i=>
   have q':(match lAt S n with | some o=>(match atI (zav o) i with | some d=>Q d S | none=>False) | none=>False):=q
   split at q'
   ·rename_i o eo
    obtain⟨eo,eL⟩:=zcx eo
    obtain⟨a',ha,ob⟩:=rel.at eo
    rw[e1] at ha; cases ha
    obtain⟨xs,sq,pr⟩:=ob.list eL
    split at q'
    ·rename_i d e
     obtain⟨w,hw,pw⟩:=zmy pr e
     exact zok value slice pins s σ H _ _ v u Qv I rx ry ⟨a,xs,i,w,rfl,rfl,sq,hw,ret w H r d S Ext.refl rel pw q'⟩ hs
    ·exact q'.elim
   ·exact q'.elim
  | _=>exact(show False from q).elim
 | _=>exact(show False from q).elim
theorem zad (ha:PD X Z a ta)(hb:PD X Z b tb)(hs:zkV b):PD X Z (.Subscript a b pos) (dOp wIx ta tb):=za3 (pe_ix do_ix ha hb hs) λ_ _ _ h=>zi9 h
end
structure Bk (fs:List Addr)(H H':Hp)(B h:Heap)(ea:Addr):Prop where
 trk:∀b u,H' b=some u→∃o,B.get? b=some o
 old:∀b o,h.get? b=some o→H b=none→b ∉ fs→B.get? b=some o
 all:∀b o,h.get? b=some o→b ∉ fs→∃o',B.get? b=some o'
 new:H' ea=none
def CXE (P:Program)(w:World):CXT:=λouter H s E e s'=>∃(ea c:Addr) (a0:Value) (B:Heap) (H':Hp),e=.ref ea∧s'.os=s.os∧AllBare s'.gens∧Un (frs outer) [] H H' s.heap s'.heap∧HOk P w H' s'.heap∧
 Heap.FlyingW B outer ea (.ref c) a0 s'.heap∧Bk (frs outer) H H' B s.heap ea∧E (.ref c) none H'
section
variable {X:Cx}{pins:List (Addr×Obj)}{σ:St}{H:Hp}{s:Shared}
end
section
variable {P:Program}{w:World}{K:PySem.W.Frag}{mg:Str→Option Value}{base:Heap}{N:List Str}{qual:Str}{scope:Scope}{f:Addr}{cdv:Value}{A:Around}{outer:List Env}{s0:Shared}{H0:Hp}{E:XK}
end
structure Xc (K:PySem.W.Frag)(mg:Str→Option Value)(x:Str)(C:Addr)(bm:List Value)(nid:String):Prop where
 bound:mg x=some (.ref C)
 ex:PySem.W.excIn K C bm nid=true
abbrev WC:=List D→Sto→DK→Prop
abbrev Sd:=List D→Sto→DK→(Addr→Sto→Prop)→Prop
def upC (K:PySem.W.Frag)(Z:Zx)(w:WC):List V→Hp→VK→Prop:=λxs H Qv=>∃r S ds Q,Rel K Z r S H∧Rps r H ds xs∧w ds S Q∧Ret K Z r H Q Qv
def upF (K:PySem.W.Frag)(sd:Sd):Sp:=λvs H Qv E=>∃ex:Addr→Sto→Prop,upC K (Zc ex E) (λds S Q=>sd ds S Q ex) vs H Qv
def zhR (w:WC)(t:TDA):TDE:=λdl S Q=>t dl S λds S1=>w ds S1 Q
def ziZ (ex:Ev→Addr→Sto→Prop)(sd:Sd)(t:TDA):TDE:=λdl S Q=>t dl S λds S1=>sd ds S1 Q (ex dl)
def zcz (X:Cx)(W:St→XK):Prop:=∀(pins:List (Addr×Obj)) (σ:St) (H:Hp) (s:Shared) (e:Value) (s':Shared),Inv X pins σ H s→CXE X.prog X.w X.stack H s (W σ) e s'→X.xe e s'
section
variable {X:Cx}{k:Nat}{f:Addr}{fd:FuncData}{ps:List Str}{sp:Sp}{W:St→XK}{x:Str}{p pos:Pos}{e:Expr}{es:List Expr}{t:TA}
theorem zk9 {pins:List (Addr×Obj)}{σ:St}{H:Hp}{s:Shared}{Q:VK}{us:List Value}{vs:List V}(F:zaZ X.prog X.w X.K X.mg X.base (CXE X.prog X.w) k f fd ps sp)(hr:zaE k X.A)(hb:zbi X.K fd ps [])(hx:zcz X W)
  (I:Inv X pins σ H s)(r:zaw vs us)(h:sp vs H Q (W σ)):wpAny (model X.prog X.w) X.A (call (.ref f) us) (EP X pins σ Q) X.xe s:=by
 have hl:us.length=ps.length:=by rw[← r.length]; exact F.len _ _ _ _ h
 have hb':=hb s us I.kIn (by rw[VaJ]; exact hl)
 rw[VaJ] at hb'
 refine wpAny_call (codeAny_mono (F.run X.A X.stack s H ⟨us,[]⟩ us vs Q (W σ) hr I.env0 hb' r h) λz s' hq=>?_)
 cases z with
 | error ev=>exact hx pins σ H s ev s' I hq
 | ok fl=>
  cases fl with
  | ret u=>exact I.after hq
  | _=>exact False.elim hq
theorem zre (F:zaZ X.prog X.w X.K X.mg X.base (CXE X.prog X.w) k f fd ps sp)(hr:zaE k X.A)(hg:Gl X x)(hm:X.mg x=some (.ref f))(hk:PySem.W.keepIn X.K (.ref f)=true)(hb:zbi X.K fd ps [])(hx:zcz X W)
  (ha:PA X (e::es) t)(hdb:(x==("__debug__":Str))=false)(he:starEach (e::es) X.env=(false,eval e X.env)::starEach es X.env)(hpl:(backTo pos (starEach es X.env)).any (·.1)=false):
  PE X (.Call (.Name x p) (e::es) [] pos) (λσ H Q=>t σ H λvs H1=>sp vs H1 Q (W σ)):=by
 intro pins s σ H Q I h
 refine wpAny_Call_Name_kw (zmI I hg hm ?_ hdb)
 exact PySem.W.callWith_K (h₀:=X.base) I.ok.mod.kin hk (thn (ha pos pins s σ H _ I h) λus s1 ⟨vs,H1,I1,r,q⟩=>⟨I1.kIn,zk9 F hr hb hx I1 r q⟩) he hpl
end
section
variable {X:Cx}{Z:Zx}{x:Str}{p pos:Pos}{e:Expr}{es:List Expr}{t:TDA}{id T:String}{w:WC}
theorem zmC {σ:St}{H:Hp}{Qv:VK}(h:up X.K Z (zhR w t) σ H Qv):upA X.K Z t σ H λvs H1=>upC X.K Z w vs H1 Qv:=by
 obtain⟨r,dl,S,Q,rs,rel,h,ret⟩:=h
 exact⟨r,dl,S,_,rs,rel,h,λvs H1 r1 ds S1 e1 rel1 p1 h1=>⟨r1,S1,ds,Q,rel1,p1,h1,ret.ext e1⟩⟩
theorem zaH (hc:za7 X (.builtin id) (upC X.K Z w))(hg:Gl X x)(hm:X.mg x=none)(hv:bootBuiltins x=some (.builtin id))(ha:PDA X Z (e::es) t)(hn:x≠"__name__":=by decide)(hdb:(x==("__debug__":Str))=false:=by decide)
  (he:starEach (e::es) X.env=(false,eval e X.env)::starEach es X.env:=by rfl)(hpl:(backTo pos (starEach es X.env)).any (·.1)=false:=by rfl):PD X Z (.Call (.Name x p) (e::es) [] pos) (zhR w t):=
 za3 (zlN hc hg hm hv ha hn hdb he hpl) λ_ _ _ h=>zmC h
theorem zm8 (hc:za7 X (.type T) (upC X.K Z w))(hg:Gl X x)(hm:X.mg x=none)(hv:bootBuiltins x=some (.type T))(ha:PDA X Z (e::es) t)(hn:x≠"__name__":=by decide)(hdb:(x==("__debug__":Str))=false:=by decide)
  (he:starEach (e::es) X.env=(false,eval e X.env)::starEach es X.env:=by rfl)(hpl:(backTo pos (starEach es X.env)).any (·.1)=false:=by rfl):PD X Z (.Call (.Name x p) (e::es) [] pos) (zhR w t):=
 za3 (zq9 hc hg hm hv ha hn hdb he hpl) λ_ _ _ h=>zmC h
theorem zk5 {sd:Sd}{r:List Addr}{S:Sto}{H:Hp}{dl:Ev}{σ:St}{ds:List D}{vs:List V}{Q:DK}{Qv:VK}(rs:Rs r H dl σ)(rel:Rel X.K Z r S H)(p:Rps r H ds vs)(h:sd ds S Q (Z.ex dl))(ret:Ret X.K Z r H Q Qv):upF X.K sd vs H Qv (Z.w σ):=
 ⟨Z.ex dl,r,S,ds,Q,⟨rel.b,λ_ _ c H' r' S' x _ rb q=>rel.xw dl σ c H' r' S' x (rs.ext x) rb q⟩,p,h,λv H' r' d S' x rel' pv q=>ret v H' r' d S' x ⟨rel'.b,rel.xw.ext x⟩ pv q⟩
theorem zpU {k:Nat}{f:Addr}{fd:FuncData}{ps:List Str}{sd:Sd}(F:zaZ X.prog X.w X.K X.mg X.base (CXE X.prog X.w) k f fd ps (upF X.K sd))(hr:zaE k X.A)(hg:Gl X x)(hm:X.mg x=some (.ref f))(hk:PySem.W.keepIn X.K (.ref f)=true)
  {ex:Ev→Addr→Sto→Prop}{W:St→XK}(hb:zbi X.K fd ps [])(hx:zcz X W)(ha:PDA X ⟨ex,W⟩ (e::es) t)(hdb:(x==("__debug__":Str))=false:=by decide)(he:starEach (e::es) X.env=(false,eval e X.env)::starEach es X.env:=by rfl)
  (hpl:(backTo pos (starEach es X.env)).any (·.1)=false:=by rfl):PD X ⟨ex,W⟩ (.Call (.Name x p) (e::es) [] pos) (ziZ ex sd t):=
 za3 (zre F hr hg hm hk hb hx ha hdb he hpl) λσ H Qv ⟨r,dl,S,Q,rs,rel,h,ret⟩=>⟨r,dl,S,_,rs,rel,h,λvs H1 r1 ds S1 e1 rel1 p1 h1=>zk5 (Z:=⟨ex,W⟩) (rs.ext e1) rel1 p1 h1 (ret.ext e1)⟩
def wAbs:WC:=λds S Q=>match ds with
 | [.int i]=>Q (.int (if i<0 then -i else i)) S
 | _=>False
theorem zeu:za7 X (.builtin "abs") (upC X.K Z wAbs):=zkT zrU λxs H Qv ⟨r,S,ds,Q,rel,ps,q,ret⟩=>by
 unfold wAbs at q
 split at q
 ·rename_i i
  obtain⟨v,vs,rfl,p1,p2⟩:=ps.uncons
  have z:=p2.unnil
  subst z
  cases p1
  exact⟨i,rfl,ret _ _ _ _ _ Ext.refl rel (.int _) q⟩
 ·exact q.elim
def zcv:List D→Option (List Int)
 | []=>some []
 | .int i::r=>(zcv r).map (i::·)
 | _::_=>none
def zdF (le:Int→Int→Prop)(two:Int→Int→Int):WC:=λds S Q=>match ds with
 | [.int i,.int j]=>Q (.int (two i j)) S
 | [.ref n]=>match lAt S n with
  | some o=>match zcv (zav o) with
   | some xs=>xs≠[]∧∀m,m∈xs→(∀y∈xs,le y m)→Q (.int m) S
   | none=>False
  | none=>False
 | _=>False
abbrev wMax:WC:=zdF (λy m=>y≤m) λi j=>if j > i then j else i
abbrev wMin:WC:=zdF (λy m=>m≤y) λi j=>if j<i then j else i
theorem zko {r:List Addr}{H:Hp}:∀ {ds:List D} {ns:List Int} {vs:List V} {us:List Value},zcv ds=some ns→Rps r H ds vs→zaw vs us→∃xs:List (Int×Tok),us.toArray=intItems xs.toArray∧xs.map (·.1)=ns
 | [],ns,vs,us,e,p,q=>by
  have z:=p.unnil
  subst z
  cases q
  simp[zcv] at e
  subst e
  exact⟨[],by simp[intItems],rfl⟩
 | d::ds,ns,vs,us,e,p,q=>by
  obtain⟨v,vs',rfl,p1,p2⟩:=p.uncons
  cases d with
  | int i=>
   cases p1
   cases q with
   | cons q1 q2=>
    obtain⟨t,rfl⟩:=q1
    simp only[zcv,Vav] at e
    obtain⟨ms,e1,rfl⟩:=e
    obtain⟨xs,h1,h2⟩:=zko e1 p2 q2
    refine⟨(i,t)::xs,?_,by simp[h2]⟩
    simp[intItems] at h1 ⊢
    exact h1
  | _=>simp[zcv] at e
theorem zmN (f:Nat→Int):∀k j,j≤k→f j≤f (argBest (λi j=>decide (f i > f j)) k)
 | 0,j,h=>by
  have z:j=0:=by omega
  subst z
  exact Vaw _
 | k+1,j,h=>by
  have ih:=zmN f k
  unfold argBest
  split
  ·rename_i hb
   have hb':f (k+1) > f (argBest (λi j=>decide (f i > f j)) k):=of_decide_eq_true hb
   by_cases z:j=k+1
   ·subst z; exact Vaw _
   ·have:=ih j (by omega); omega
  ·rename_i hb
   have hb':¬ f (k+1) > f (argBest (λi j=>decide (f i > f j)) k):=λq=>hb (decide_eq_true q)
   by_cases z:j=k+1
   ·subst z; omega
   ·exact ih j (by omega)
theorem zny (f:Nat→Int):∀k j,j≤k→f (argBest (λi j=>decide (f i<f j)) k)≤f j
 | 0,j,h=>by
  have z:j=0:=by omega
  subst z
  exact Vaw _
 | k+1,j,h=>by
  have ih:=zny f k
  unfold argBest
  split
  ·rename_i hb
   have hb':f (k+1)<f (argBest (λi j=>decide (f i<f j)) k):=of_decide_eq_true hb
   by_cases z:j=k+1
   ·subst z; exact Vaw _
   ·have:=ih j (by omega); omega
  ·rename_i hb
   have hb':¬ f (k+1)<f (argBest (λi j=>decide (f i<f j)) k):=λq=>hb (decide_eq_true q)
   by_cases z:j=k+1
   ·subst z; omega
   ·exact ih j (by omega)
theorem zkF (bt:Nat→Nat→Bool):∀k,argBest bt k≤k
 | 0=>Vaa _
 | k+1=>by
  unfold argBest
  split
  ·exact Vaa _
  ·exact Nat.le_succ_of_le (zkF bt k)
theorem zlw {xs:List (Int×Tok)}{ns:List Int}(h:xs.map (·.1)=ns){j:Nat}{y:Int}(e:ns[j]?=some y):numAt xs.toArray j=y:=by
  subst h
  unfold numAt
  rw[Vah] at e
  simp only[List.getElem?_toArray]
  cases q:xs[j]? with
  | none=>
   rw[q] at e
   cases e
  | some z=>rw[q] at e; simpa using e
theorem zmk {xs:List (Int×Tok)}{ns:List Int}(h:xs.map (·.1)=ns){j:Nat}(hj:j<ns.length):numAt xs.toArray j∈ns:=by
 have e:ns[j]?=some ns[j]:=by simp[hj]
 rw[zlw h e]
 exact List.getElem_mem hj
theorem zbw (hc:X.calm=true):za7 X (.builtin "max") (upC X.K Z wMax):=by
 intro pins s σ H xs us Qv I rv h
 obtain⟨r,S,ds,Q,rel,ps,q,ret⟩:=h
 unfold wMax zdF at q
 split at q
 ·rename_i i j
  obtain⟨v,vs,rfl,p1,p2⟩:=ps.uncons
  obtain⟨v2,vs2,rfl,p3,p4⟩:=p2.uncons
  have z:=p4.unnil
  subst z
  cases p1
  cases p3
  exact zrm hc pins s σ H _ us Qv I rv ⟨i,j,rfl,ret _ _ _ _ _ Ext.refl rel (.int _) q⟩
 ·rename_i n
  obtain⟨v,vs,rfl,p1,p2⟩:=ps.uncons
  have z:=p2.unnil
  subst z
  split at q
  ·rename_i o eo
   split at q
   ·rename_i ns en
    obtain⟨hne,q⟩:=q
    obtain⟨eo,eL⟩:=zcx eo
    obtain⟨a,ha,ob⟩:=rel.at eo
    cases p1 with
    | ref h1=>
     rw[h1] at ha; cases ha
     obtain⟨ys,sq,pr⟩:=ob.list eL
     obtain⟨u,rfl,ru⟩:=zf8 rv
     cases ru
     obtain⟨its,ri,pl,hz⟩:=I.list sq
     obtain⟨zs,hz1,hz2⟩:=zko en pr ri
     have hl:zs.length=ns.length:=by rw[← hz2,Vab]
     have hpos:0<ns.length:=List.length_pos_iff.mpr hne
     have isl:=pl.isList
     rw[hz1] at isl
     refine max_intList (I.ok.hd hc) isl (by simp; omega) λv h' tk hv hk=>?_
     have hvi:=intItems_at hv
     obtain⟨t,rfl⟩:=hvi
     have hb:=zkF (λi j=>decide (numAt zs.toArray i > numAt zs.toArray j)) (zs.toArray.size-1)
     have hsz:zs.toArray.size=ns.length:=by simp[hl]
     refine⟨.int _,H,I.kept hk,⟨_,rfl⟩,ret _ _ _ _ _ Ext.refl rel (.int _) (q _ (zmk hz2 (by omega)) λy hy=>?_)⟩
     obtain⟨j,hj,ej⟩:=List.mem_iff_getElem.mp hy
     have e1:=zlw hz2 (show ns[j]?=some y by simp[hj,ej])
     rw[← e1]
     exact zmN _ _ j (by omega)
   ·exact q.elim
  ·exact q.elim
 ·exact q.elim
theorem zcD (hc:X.calm=true):za7 X (.builtin "min") (upC X.K Z wMin):=by
 intro pins s σ H xs us Qv I rv h
 obtain⟨r,S,ds,Q,rel,ps,q,ret⟩:=h
 unfold wMin zdF at q
 split at q
 ·rename_i i j
  obtain⟨v,vs,rfl,p1,p2⟩:=ps.uncons
  obtain⟨v2,vs2,rfl,p3,p4⟩:=p2.uncons
  have z:=p4.unnil
  subst z
  cases p1
  cases p3
  exact zpi hc pins s σ H _ us Qv I rv ⟨i,j,rfl,ret _ _ _ _ _ Ext.refl rel (.int _) q⟩
 ·rename_i n
  obtain⟨v,vs,rfl,p1,p2⟩:=ps.uncons
  have z:=p2.unnil
  subst z
  split at q
  ·rename_i o eo
   split at q
   ·rename_i ns en
    obtain⟨hne,q⟩:=q
    obtain⟨eo,eL⟩:=zcx eo
    obtain⟨a,ha,ob⟩:=rel.at eo
    cases p1 with
    | ref h1=>
     rw[h1] at ha; cases ha
     obtain⟨ys,sq,pr⟩:=ob.list eL
     obtain⟨u,rfl,ru⟩:=zf8 rv
     cases ru
     obtain⟨its,ri,pl,hz⟩:=I.list sq
     obtain⟨zs,hz1,hz2⟩:=zko en pr ri
     have hl:zs.length=ns.length:=by rw[← hz2,Vab]
     have hpos:0<ns.length:=List.length_pos_iff.mpr hne
     have isl:=pl.isList
     rw[hz1] at isl
     refine min_intList (I.ok.hd hc) isl (by simp; omega) λv h' tk hv hk=>?_
     have hvi:=intItems_at hv
     obtain⟨t,rfl⟩:=hvi
     have hb:=zkF (λi j=>decide (numAt zs.toArray i<numAt zs.toArray j)) (zs.toArray.size-1)
     have hsz:zs.toArray.size=ns.length:=by simp[hl]
     refine⟨.int _,H,I.kept hk,⟨_,rfl⟩,ret _ _ _ _ _ Ext.refl rel (.int _) (q _ (zmk hz2 (by omega)) λy hy=>?_)⟩
     obtain⟨j,hj,ej⟩:=List.mem_iff_getElem.mp hy
     have e1:=zlw hz2 (show ns[j]?=some y by simp[hj,ej])
     rw[← e1]
     exact zny _ _ j (by omega)
   ·exact q.elim
  ·exact q.elim
 ·exact q.elim
def zeo:WC:=λds S Q=>match ds with
 | [.tup xs]=>Q (.int xs.length) S
 | [.ref n]=>match lAt S n with
  | some o=>Q (.int (zav o).length) S
  | none=>False
 | _=>False
theorem zcr:za7 X (.builtin "len") (upC X.K Z zeo):=zkT zqE λxs H Qv ⟨r,S,ds,Q,rel,ps,q,ret⟩=>by
 unfold zeo at q
 split at q
 ·rename_i ys
  obtain⟨v,vs,rfl,p1,p2⟩:=ps.uncons
  have z:=p2.unnil
  subst z
  obtain⟨a,zs,rfl,h1,h2⟩:=p1.untup
  exact⟨a,zs,rfl,.inr (SqT.of h1),by rw[← h2.1]; exact ret _ _ _ _ _ Ext.refl rel (.int _) q⟩
 ·rename_i n
  obtain⟨v,vs,rfl,p1,p2⟩:=ps.uncons
  have z:=p2.unnil
  subst z
  split at q
  ·rename_i o eo
   obtain⟨eo,eL⟩:=zcx eo
   obtain⟨a,ha,ob⟩:=rel.at eo
   cases p1 with
   | ref h1=>
    rw[h1] at ha; cases ha
    obtain⟨ys,sq,pr⟩:=ob.list eL
    exact⟨_,ys,rfl,.inl sq,by rw[← pr.1]; exact ret _ _ _ _ _ Ext.refl rel (.int _) q⟩
  ·exact q.elim
 ·exact q.elim
def zcJ (t T:String):Bool:=t==T||(t == "bool"&&T == "int")
def znb (T:String)(te:TDE):TDE:=λdl S Q=>te dl S λd S1=>match d with
 | .ref _=>False
 | .exc _=>False
 | .non=>Q (.bl (zcJ "NoneType" T)) S1
 | .bl _=>Q (.bl (zcJ "bool" T)) S1
 | .int _=>Q (.bl (zcJ "int" T)) S1
 | .str _=>Q (.bl (zcJ "str" T)) S1
 | .tup _=>Q (.bl (zcJ "tuple" T)) S1
def Kit (K:PySem.W.Frag)(T:String):Prop:=∀t∈["NoneType","bool","int","str","tuple"],PySem.W.kitOne K (.type t) (.type T)=some (zcJ t T)
def rInst (K:PySem.W.Frag):List V→Hp→VK→Prop:=λxs H Qv=>∃x T t b,xs=[x,.ty T]∧zbM K H x t∧PySem.W.kitOne K t (.type T)=some b∧Qv (.bl b) H
theorem zmq:za7 X (.builtin "isinstance") (rInst X.K):=by
 intro pins s σ H xs us Q I r h
 obtain⟨x,T,t,b,rfl,ty,e,q⟩:=h
 obtain⟨u,w',rfl,r1,r2⟩:=zk0 r
 cases r2
 exact znC I r1 ty e λtk=>⟨.bl b,H,I.tok tk,rfl,q⟩
theorem zh3 {T:String}{te:TDE}{y:Str}{p2:Pos}(KT:Kit X.K T)(hg:Gl X "isinstance")(hm:X.mg "isinstance"=none)(hg2:Gl X y)(hm2:X.mg y=none)(hv2:bootBuiltins y=some (.type T))(ha:PD X Z e te)
  (hv:bootBuiltins "isinstance"=some (.builtin "isinstance"):=by exact PyProof.Rows.Boot.«isinstance»)
  (hn2:y≠"__name__":=by decide)(hd2:(y==("__debug__":Str))=false:=by decide)(he2:starEach [e,.Name y p2] X.env=(false,eval e X.env)::starEach [.Name y p2] X.env:=by rfl)
  (he3:starEach [.Name y p2] X.env=(false,eval (.Name y p2) X.env)::starEach [] X.env:=by rfl)(hpl:(backTo pos (starEach [.Name y p2] X.env)).any (·.1)=false:=by rfl):
  PD X Z (.Call (.Name "isinstance" p) [e,.Name y p2] [] pos) (znb T te):=
 za3 (zlN zmq hg hm hv (zd0 ha (zd0 (znx (v:=.ty T) hg2 hm2 hv2 rfl hn2 hd2) zgH he3) he2) (by decide) (by decide) he2 hpl) λσ H Qv ⟨r,dl,S,Q,rs,rel,h,ret⟩=>
  ⟨r,dl,S,_,rs,rel,h,λv H1 r1 d S1 e1 rel1 p1 h1=>by
   cases p1 with
   | non=>exact⟨_,T,_,_,rfl,.non,KT _ (by simp),ret _ _ _ _ _ e1 rel1 (.bl _) h1⟩
   | bl b=>exact⟨_,T,_,_,rfl,.bl b,KT _ (by simp),ret _ _ _ _ _ e1 rel1 (.bl _) h1⟩
   | int b=>exact⟨_,T,_,_,rfl,.int b,KT _ (by simp),ret _ _ _ _ _ e1 rel1 (.bl _) h1⟩
   | str b=>exact⟨_,T,_,_,rfl,.str b,KT _ (by simp),ret _ _ _ _ _ e1 rel1 (.bl _) h1⟩
   | tup e2 _ _=>exact⟨_,T,_,_,rfl,.tup e2,KT _ (by simp),ret _ _ _ _ _ e1 rel1 (.bl _) h1⟩
   | ref _=>exact(show False from h1).elim
   | exc _=>exact(show False from h1).elim⟩
end
section
variable {X:Cx}{Z:Zx}{st:Stmt}{zba:List Stmt}{t u:TDS}{e:Expr}{te:TDE}{pos:Pos}
def zkt:TDS:=λE dl S=>E.nx dl S
def zcg (t u:TDS):TDS:=λE dl S=>t { nx:=λdl' S'=>u E dl' S',rt:=E.rt,bk:=E.bk,ct:=E.ct } dl S
theorem zau:zcu X Z [] zkt:=znw zr8 λF σ H ⟨r,dl,S,E,rs,rel,h,ret⟩=>ret.nx σ H r dl S Ext.refl rs rel h
theorem zae (h1:PDS X Z st t)(h2:zcu X Z zba u):zcu X Z (st::zba) (zcg t u):=
 znw (zqv h1 h2) λF σ H ⟨r,dl,S,E,rs,rel,h,ret⟩=>⟨r,dl,S,_,rs,rel,h,λσ' H' r' dl' S' x rs' rel' q=>⟨r',dl',S',E,rs',rel',q,ret.ext x⟩,ret.bk,ret.ct,ret.rt⟩
theorem zaf (h1:PDS X Z st t):zcu X Z [st] t:=zsY h1
def znz (te:TDE):TDS:=λE dl S=>te dl S λ_ S1=>E.nx dl S1
theorem zlG (he:PD X Z e te)(hs:swapsWith e none pos.line X.env=pure false:=by rfl):PDS X Z (.Expr e pos) (znz te):=
 zcp (zqu he hs) λF σ H ⟨r,dl,S,E,rs,rel,h,ret⟩=>⟨r,dl,S,_,rs,rel,h,λv H1 r1 d S1 x rel1 p q=>ret.nx σ H1 r1 dl S1 x (rs.ext x) rel1 q⟩
def dRet (te:TDE):TDS:=λE dl S=>te dl S E.rt
theorem zak (he:PD X Z e te):PDS X Z (.Return (some e) pos) (dRet te):=
 zcp (zoi he) λF σ H ⟨r,dl,S,E,rs,rel,h,ret⟩=>⟨r,dl,S,_,rs,rel,h,ret.rt⟩
def dRetN:TDS:=λE _ S=>E.rt .non S
def dIf (c:TDT)(t u:TDS):TDS:=λE dl S=>c dl S λk S1=>if k=true then t E dl S1 else u E dl S1
theorem zas {c:Expr}{a b:List Stmt}{tc:TDT}(hc:PDT X Z c tc)(ha:zcu X Z a t)(hb:zcu X Z b u):PDS X Z (.If c a b pos) (dIf tc t u):=
 zcp (ps_if hc ha hb) λF σ H ⟨r,dl,S,E,rs,rel,h,ret⟩=>⟨r,dl,S,_,rs,rel,h,λk H1 r1 S1 x rel1 q=>by
  cases k with
  | true=>exact zch ⟨r1,dl,S1,E,rs.ext x,rel1,(by simpa using q),ret.ext x⟩
  | false=>exact zb3 ⟨r1,dl,S1,E,rs.ext x,rel1,(by simpa using q),ret.ext x⟩⟩
def zjQ (i:Nat)(te:TDE):TDS:=λE dl S=>te dl S λd S1=>E.nx (dl.set i (some d)) S1
theorem zal {i:Nat}{x:Str}{pos':Pos}(hN:X.N.Nodup)(hi:X.N[i]?=some x)(hx:Loc X.env.scope x)(he:PD X Z e te)(hs:swapsWith e (some (.Name x pos')) pos.line X.env=pure false:=by rfl)
  (hf:X.fn x=true∨X.env.scope.names.lookup x=some .local:=by first | exact .inl rfl | exact .inr rfl | assumption):PDS X Z (.Assign [.Name x pos'] e pos) (zjQ i te):=
 zcp (zrK hN hi hx he hs hf) λF σ H ⟨r,dl,S,E,rs,rel,h,ret⟩=>⟨r,dl,S,_,rs,rel,h,λv H1 r1 d S1 x rel1 p q=>ret.nx _ H1 r1 _ S1 x ((rs.ext x).set i p) rel1 q⟩
def zn9 (c:TDT)(tb:TDS):TDS:=λE dl S=>∃W:Nat→Ev→Sto→Prop,(∃m,W m dl S)∧∀m dl S,W m dl S→
 c dl S λk S1=>if k=true then tb { nx:=λdl' S'=>∃m',m'<m∧W m' dl' S',rt:=E.rt,bk:=E.nx,ct:=λdl' S'=>∃m',m'<m∧W m' dl' S' } dl S1 else E.nx dl S1
theorem zl1 {c:Expr}{body:List Stmt}{tc:TDT}{tb:TDS}(hp:PassesOwn (model X.prog X.w) X.A X.env X.xe)(hc:PDT X Z c tc)(hb:zcu X Z body tb):PDS X Z (.While c body [] pos) (zn9 tc tb):=
 zcp (zos hp hc hb) λF σ H ⟨r,dl,S,E,rs,rel,⟨W,⟨m0,w0⟩,turn⟩,ret⟩=>by
  refine⟨λm σ' H'=>∃r' dl' S',Ext r r' H H'∧Rs r' H' dl' σ'∧Rel X.K Z r' S' H'∧W m dl' S',⟨m0,r,dl,S,Ext.refl,rs,rel,w0⟩,?_⟩
  rintro m σ1 H1 ⟨r1,dl1,S1,x1,rs1,rel1,w1⟩
  refine⟨r1,dl1,S1,_,rs1,rel1,turn m dl1 S1 w1,λk H2 r2 S2 x2 rel2 q2=>?_⟩
  cases k with
  | true=>
   refine zch ⟨λσ' H'=>∃m',m'<m∧∃r' dl' S',Ext r r' H H'∧Rs r' H' dl' σ'∧Rel X.K Z r' S' H'∧W m' dl' S',λ_ _ z=>z,r2,dl1,S2,_,rs1.ext x2,rel2,(by simpa using q2),?_⟩
   have go:∀σ' H' r' dl' S',Ext r2 r' H2 H'→Rs r' H' dl' σ'→Rel X.K Z r' S' H'→(∃m',m'<m∧W m' dl' S')→∃m',m'<m∧∃r' dl' S',Ext r r' H H'∧Rs r' H' dl' σ'∧Rel X.K Z r' S' H'∧W m' dl' S':=
    λσ' H' r' dl' S' x rs' rel' ⟨m',hm,w'⟩=>⟨m',hm,r',dl',S',x1.trans (x2.trans x),rs',rel',w'⟩
   exact⟨go,λσ' H' r' dl' S' x rs' rel' q=>ret.nx σ' H' r' dl' S' (x1.trans (x2.trans x)) rs' rel' q,go,ret.rt.ext (x1.trans x2)⟩
  | false=>exact zb3 (ret.nx σ1 H2 r2 dl1 S2 (x1.trans x2) (rs1.ext x2) rel2 (by simpa using q2))
def dFor (i:Nat)(tl:TDE)(tb:TDS):TDS:=λE dl S=>tl dl S λd S1=>match d with
 | .ref n=>(lAt S1 n).isSome=true∧∃W:Nat→Nat→Ev→Sto→Prop,(∃m,W 0 m dl S1)∧∀k m dl S,W k m dl S→match lAt S n with
  | some o=>match (zav o)[k]? with
   | some x=>tb { nx:=λdl' S'=>∃m',m'<m∧W (k+1) m' dl' S',rt:=E.rt,bk:=E.nx,ct:=λdl' S'=>∃m',m'<m∧W (k+1) m' dl' S' } (dl.set i (some x)) S
   | none=>E.nx dl S
  | none=>False
 | _=>False
theorem zho {i:Nat}{x:Str}{pos':Pos}{iter:Expr}{body:List Stmt}{tl:TDE}{tb:TDS}(hp:PassesOwn (model X.prog X.w) X.A X.env X.xe)(hc:X.calm=true)(hN:X.N.Nodup)(hi:X.N[i]?=some x)(hx:Loc X.env.scope x)
  (hl:PD X Z iter tl)(hb:zcu X Z body tb)(hf:X.fn x=true∨X.env.scope.names.lookup x=some .local:=by first | exact .inl rfl | exact .inr rfl | assumption)
  (hs:∀y,foldedSetIterable iter X.env y=pure y:=by intro _; rfl):PDS X Z (.For (.Name x pos') iter body [] pos) (dFor i tl tb):=
 zcp (zmd hp hc (zks hl) (zll hN hi hx hf) hb hs) λF σ H ⟨r,dl,S,E,rs,rel,h,ret⟩=>by
  refine⟨r,dl,S,_,rs,rel,h,λv H1 r1 d S1 x1 rel1 p1 q1=>?_⟩
  cases p1 with
  | @ref n a hn=>
   obtain⟨hsome,W,⟨m0,w0⟩,turn⟩:=q1
   have sql:∀ {r':List Addr} {S':Sto} {H':Hp} {o:Ob},Ext r1 r' H1 H'→Rel X.K Z r' S' H'→lAt S' n=some o→∃xs,SqL X.K H' a xs∧Rps r' H' (zav o) xs:=λ{r' S' H' o} x' rel' eo=>by
    obtain⟨eo,eL⟩:=zcx eo
    obtain⟨a',ha,ob⟩:=rel'.at eo
    rw[x'.adr n a hn] at ha; cases ha
    exact ob.list eL
   obtain⟨o1,eo1⟩:=Option.isSome_iff_exists.mp hsome
   obtain⟨xs1,sq1,_⟩:=sql Ext.refl rel1 eo1
   refine⟨a,rfl,⟨xs1,sq1⟩,λk m σ' H'=>∃r' dl' S',Ext r1 r' H1 H'∧Rs r' H' dl' σ'∧Rel X.K Z r' S' H'∧W k m dl' S',⟨m0,r1,dl,S1,Ext.refl,rs.ext x1,rel1,w0⟩,?_⟩
   rintro k m σ2 H2 ⟨r2,dl2,S2,x2,rs2,rel2,w2⟩
   have q:=turn k m dl2 S2 w2
   split at q
   ·rename_i o eo
    obtain⟨xs,sq,pr⟩:=sql x2 rel2 eo
    split at q
    ·rename_i y ey
     obtain⟨v,hv,pv⟩:=pr.get ey
     have go:∀ {r3:List Addr} {H3:Hp},Ext r2 r3 H2 H3→∀σ' H' r' dl' S',Ext r3 r' H3 H'→Rs r' H' dl' σ'→Rel X.K Z r' S' H'→(∃m',m'<m∧W (k+1) m' dl' S')→∃m',m'<m∧∃r' dl' S',Ext r1 r' H1 H'∧Rs r' H' dl' σ'∧Rel X.K Z r' S' H'∧W (k+1) m' dl' S':=
      λ{r3 H3} x3 σ' H' r' dl' S' x rs' rel' ⟨m',hm,w'⟩=>⟨m',hm,r',dl',S',x2.trans (x3.trans x),rs',rel',w'⟩
     refine .inr ⟨⟨xs,v,sq,hv⟩,λσ' H'=>∃m',m'<m∧∃r' dl' S',Ext r1 r' H1 H'∧Rs r' H' dl' σ'∧Rel X.K Z r' S' H'∧W (k+1) m' dl' S',λ_ _ z=>z,λv' H' y'=>?_⟩
     obtain⟨eH,y'⟩:=y'
     subst eH
     have ev:v'=v:=by
      have z:=y' xs sq
      rw[hv] at z; exact(Option.some.inj z).symm
     subst ev
     exact⟨r2,_,S2,_,rs2.set i pv,rel2,q,go Ext.refl,λσ' H' r' dl' S' x rs' rel' z=>ret.nx σ' H' r' dl' S' (x1.trans (x2.trans x)) rs' rel' z,go Ext.refl,ret.rt.ext (x1.trans x2)⟩
    ·rename_i ey
     have hlen:(zav o).length≤k:=Vay.mp ey
     exact .inl ⟨⟨xs,sq,by rw[← pr.1]; exact hlen⟩,ret.nx σ2 H2 r2 dl2 S2 (x1.trans x2) rs2 rel2 q⟩
   ·exact q.elim
  | _=>exact(show False from q1).elim
def dForR (i:Nat)(ta:TDA)(tb:TDS):TDS:=λE dl S=>ta dl S λds S1=>match ds with
 | [.int j]=>(-(2^62)≤j∧j<2^62)∧∃W:Nat→Ev→Sto→Prop,W 0 dl S1∧∀k dl S,W k dl S→
   if k<j.toNat then tb { nx:=λdl' S'=>W (k+1) dl' S',rt:=E.rt,bk:=E.nx,ct:=λdl' S'=>W (k+1) dl' S' } (dl.set i (some (.int k))) S else E.nx dl S
 | _=>False
theorem zhL {i:Nat}{x:Str}{pos2 pos' p:Pos}{a:Expr}{body:List Stmt}{ta:TDA}{tb:TDS}(hp:PassesOwn (model X.prog X.w) X.A X.env X.xe)(hc:X.calm=true)(hN:X.N.Nodup)(hi:X.N[i]?=some x)(hx:Loc X.env.scope x)
  (hg:Gl X "range")(hm:X.mg "range"=none)(ha:PDA X Z [a] ta)(hb:zcu X Z body tb)(hf:X.fn x=true∨X.env.scope.names.lookup x=some .local:=by first | exact .inl rfl | exact .inr rfl | assumption)
  (hs:∀y,foldedSetIterable (.Call (.Name "range" p) [a] [] pos) X.env y=pure y:=by intro _; rfl)(hst:starEach [a] X.env=[(false,eval a X.env)]:=by rfl):
  PDS X Z (.For (.Name x pos') (.Call (.Name "range" p) [a] [] pos) body [] pos2) (dForR i ta tb):=
 zcp (zmd hp hc (zl3 hg hm ha hst) (zll hN hi hx hf) hb hs) λF σ H ⟨r,dl,S,E,rs,rel,h,ret⟩=>by
  refine⟨r,dl,S,_,rs,rel,h,λvs H1 r1 ds S1 x1 rel1 p1 q1=>?_⟩
  split at q1
  ·rename_i j
   obtain⟨v,vs',rfl,p2,p3⟩:=p1.uncons
   have z:=p3.unnil
   subst z
   cases p2
   obtain⟨⟨b1,b2⟩,W,w0,turn⟩:=q1
   refine⟨j,rfl,b1,b2,λk m σ' H'=>m=j.toNat-k∧∃r' dl' S',Ext r1 r' H1 H'∧Rs r' H' dl' σ'∧Rel X.K Z r' S' H'∧W k dl' S',⟨j.toNat,by simp,r1,dl,S1,Ext.refl,rs.ext x1,rel1,w0⟩,?_⟩
   rintro k m σ2 H2 ⟨em,r2,dl2,S2,x2,rs2,rel2,w2⟩
   have q:=turn k dl2 S2 w2
   split at q
   ·rename_i hk
    have go:∀σ' H' r' dl' S',Ext r2 r' H2 H'→Rs r' H' dl' σ'→Rel X.K Z r' S' H'→W (k+1) dl' S'→∃r' dl' S',Ext r1 r' H1 H'∧Rs r' H' dl' σ'∧Rel X.K Z r' S' H'∧W (k+1) dl' S':=
     λσ' H' r' dl' S' x rs' rel' w'=>⟨r',dl',S',x2.trans x,rs',rel',w'⟩
    have pk:Rp r2 H2 (.int (k:Int)) (.int (0+(k:Int))):=by rw[Int.zero_add]; exact .int _
    refine .inr ⟨hk,λσ' H'=>∃r' dl' S',Ext r1 r' H1 H'∧Rs r' H' dl' σ'∧Rel X.K Z r' S' H'∧W (k+1) dl' S',λσ' H' z=>⟨j.toNat-(k+1),by omega,rfl,z⟩,λv' H' y'=>?_⟩
    obtain⟨eH,y'⟩:=y'
    subst eH
    subst y'
    exact⟨r2,_,S2,_,rs2.set i pk,rel2,q,go,λσ' H' r' dl' S' x rs' rel' z=>ret.nx σ' H' r' dl' S' (x1.trans (x2.trans x)) rs' rel' z,go,ret.rt.ext (x1.trans x2)⟩
   ·rename_i hk
    exact .inl ⟨by show j.toNat≤k; omega,ret.nx σ2 H2 r2 dl2 S2 (x1.trans x2) rs2 rel2 q⟩
  ·exact q1.elim
end
def zex (N:List Str)(ds:List D):Ev:=ds.map some++List.replicate (N.length-ds.length) none
theorem zq3 {r:List Addr}{H:Hp}{N:List Str}{ds:List D}{vs:List V}(h:Rps r H ds vs):Rs r H (zex N ds) (L2.zce N vs):=by
  refine⟨by simp[zex,L2.zce,h.1],λi d e=>?_⟩
  unfold zex at e
  by_cases hi:i<ds.length
  · rw[Var (by simpa using hi),Vah] at e
    cases q:ds[i]? with
    | none=>
   rw[q] at e
   cases e
    | some z=>
      rw[q] at e
      cases e
      obtain⟨v,hv,pv⟩:=h.get q
      refine⟨v,?_,pv⟩
      unfold L2.zce
      rw[Var (by simpa [h.1] using hi),Vah,hv]
      rfl
  · rw[VaV (by simpa using hi),List.getElem?_replicate] at e
    split at e <;> cases e
section
variable {P:Program}{w:World}{K:PySem.W.Frag}{mg:Str→Option Value}{base:Heap}
abbrev Z0:Zx:=Zc (λ_ _=>False) (λ_ _ _=>False)
theorem zcw {X:Cx}:zcz X Z0.w:=λ_ _ _ _ _ _ _ h=>by
 obtain⟨_,_,_,_,_,_,_,_,_,_,_,_,q⟩:=h
 exact q.elim
theorem zaA {x qual:Str}{st:Stmt}{f:Addr}{fd:FuncData}{N ps:List Str}{k:Nat}{sd:Sd}(F:Fun K x qual st f fd)(Sc:zaz N ps (zat st))(len:∀ds S Q ex,sd ds S Q ex→ds.length=ps.length)
  (hbody:∀(cdv:Value) (A:Around) (outer:List Env) (s:Shared) (H:Hp) (E:XK),zaE k (A.deeper (envOfC qual (zat st) s.heap.objs.size f cdv))→
   ∃t,zcu (zdI (CXE P w) P w K mg base N qual (zat st) f cdv A outer s H E).nox Z0 (zcB st) t∧∀ds S Q ex,sd ds S Q ex→t { nx:=λ_ S'=>Q .non S',rt:=Q } (zex N ds) S):zaZ P w K mg base (CXE P w) (k+1) f fd ps (upF K sd):=by
 obtain⟨oc,od,kV,doc,pm,an,cdv,ct,osl,rfl,lk,hcd⟩:=F.ex
 refine zmA lk hcd Sc (λvs H Q E h=>?_) λA outer s H vs Q E hr h=>?_
 ·obtain⟨ex,r,S,ds,Q',rel,p,q,ret⟩:=h
  rw[← p.1]
  exact len ds S Q' ex q
 ·obtain⟨ex,r,S,ds,Q',rel,p,q,ret⟩:=h
  obtain⟨t,ht,hq⟩:=hbody cdv A outer s H E hr
  have back:∀ {H':Hp} {r':List Addr} {S':Sto},Ext r r' H H'→Rel K Z0 r' S' H'→Rel K (Zc ex E) r' S' H':=λx rel'=>⟨rel'.b,rel.xw.ext x⟩
  refine⟨upS K Z0 t,ht.nox,r,zex N ds,S,_,zq3 p,⟨rel.b,λ_ _ _ _ _ _ _ _ _ z=>z.elim⟩,hq ds S Q' ex q,?_,?_,?_,?_⟩
  ·intro σ' H' r' dl' S' x _ rel' z
   exact ret .non H' r' .non S' x (back x rel') .non z
  ·intro σ' H' r' dl' S' x _ rel' z
   exact z
  ·intro σ' H' r' dl' S' x _ rel' z
   exact z
  ·intro v H' r' d S' x rel' p' z
   exact ret v H' r' d S' x (back x rel') p' z
end
open PySem
def Sz (n:Nat)(i:Int):Prop:=i.natAbs<2^n
theorem Sz.mono {m n:Nat}{i:Int}(h:Sz m i)(hn:m≤n):Sz n i:=Vao h (Nat.pow_le_pow_right (by decide) hn)
theorem Sz.bits {n:Nat}{i:Int}(h:Sz n i):Builtin.Int.intBits i≤n:=by
 unfold Builtin.Int.intBits
 split
 ·exact VaU _
 ·rename_i hz
  have hp:i.natAbs≠0:=by
   intro z
   have z2:i=0:=by omega
   simp[z2] at hz
  have:=(Nat.log2_lt hp).mpr h
  omega
theorem zaD {m n:Nat}{i j:Int}(hi:Sz m i)(hj:Sz n j)(hm:m≤1048576:=by decide)(hn:n≤1048576:=by decide):IntMulOk i j:=by
 have e20:(2:Nat)^20=1048576:=by decide
 exact IntMulOk.of_bits (Vas hi.bits (by omega)) (Vas hj.bits (by omega))
theorem Sz.of {n:Nat}{i:Int}(m:Nat)(h:i.natAbs≤m)(hm:m<2^n:=by decide):Sz n i:=Nat.lt_of_le_of_lt h hm
theorem Sz.mul {m n:Nat}{i j:Int}(hi:Sz m i)(hj:Sz n j):Sz (m+n) (i*j):=by
 unfold Sz at *
 rw[Nat.pow_add,Int.natAbs_mul]
 exact Nat.mul_lt_mul'' hi hj
theorem Sz.add {m n:Nat}{i j:Int}(hi:Sz m i)(hj:Sz n j):Sz (max m n+1) (i+j):=by
 have h1:Sz (max m n) i:=hi.mono (Nat.le_max_left _ _)
 have h2:Sz (max m n) j:=hj.mono (Nat.le_max_right _ _)
 unfold Sz at *
 have e:(2:Nat)^(max m n+1)=2^max m n+2^max m n:=by rw[Nat.pow_succ]; omega
 rw[e]
 have:=Int.natAbs_add_le i j
 omega
theorem Sz.neg {m:Nat}{i:Int}(hi:Sz m i):Sz m (-i):=by
 unfold Sz at *
 rw[Int.natAbs_neg]; exact hi
theorem Sz.sub {m n:Nat}{i j:Int}(hi:Sz m i)(hj:Sz n j):Sz (max m n+1) (i-j):=by
 rw[Int.sub_eq_add_neg]; exact hi.add hj.neg
theorem Sz.log {n:Nat}{i:Int}(h:Sz n i)(hi:i≠0)(hn:n≤9000:=by decide):i.natAbs.log2<9000:=by
 have:=(Nat.log2_lt (by omega:i.natAbs≠0)).mpr h
 omega
theorem Sz.fd {n:Nat}{i:Int}(h:Sz n i)(hi:0<i)(hn:n≤9000:=by decide):0<i∧i.natAbs.log2<9000:=⟨hi,h.log (by omega) hn⟩
theorem zbZ {a b:Int}(hb:0<b):0≤a%b∧a%b<b:=⟨Int.emod_nonneg _ (by omega),Int.emod_lt_of_pos _ hb⟩
theorem p40:((10:Int)^(40:Int).toNat)=10^40:=rfl
theorem p41:((10:Int)^(41:Int).toNat)=10^41:=rfl
theorem p20:((10:Int)^(20:Int).toNat)=10^20:=rfl
example (x:Int):-(10^40)≤x%(2*10^40+1)-10^40:=by omega
example (x:Int):x%(2*10^40+1)-10^40≤10^40:=by omega
example (x:Int) (h:-(10^40)≤x) (h2:x≤2*10^41):Sz 140 x:=Sz.of (2*10^41) (by omega)
theorem zo7 (m:Int){g:Int}(hg:0<g):m/g*g≤m∧m<(m/g+1)*g:=by
 have h1:=Int.emod_add_mul_ediv m g
 have h2:=Int.emod_nonneg m (show g≠0 by omega)
 have h3:=Int.emod_lt_of_pos m hg
 have e:(m/g+1)*g=g*(m/g)+g:=by grind
 have e2:m/g*g=g*(m/g):=VaW _ _
 omega
section
variable {X:Cx}{Z:Zx}
def wIf (C:Int→Int→Bool)(g:Int→Int→D):W2:=λx y S Q=>match x,y with
 | .int i,.int j=>if C i j=true then Q (g i j) S else False
 | _,_=>False
theorem opIf {f:Value→Value→Sem Value}{C:Int→Int→Prop}{C':Int→Int→Bool}{g:Int→Int→D}(h:OpR X f (upO X.K Z (wI C g)))(hc:∀i j,C' i j=true→C i j):OpR X f (upO X.K Z (wIf C' g)):=
 zeb h λx y H Qv ⟨r,S,dx,dy,Q,rel,px,py,q,ret⟩=>⟨r,S,dx,dy,Q,rel,px,py,by
  unfold wIf at q
  split at q
  ·obtain⟨h1,h2⟩:=zjz q
   exact⟨hc _ _ h1,h2⟩
  ·exact q.elim,ret⟩
def zgr (_ j:Int):Bool:=decide (0<j)&&decide (j<1073741824)
abbrev zqk:W2:=wIf zgr λi j=>.int (i/j)
abbrev wModL:W2:=wIf zgr λi j=>.int (i%j)
def powB (i j:Int):Bool:=decide (0≤j)&&decide (j≤1000)&&decide (-1000<i)&&decide (i<1000)
abbrev wPowL:W2:=wIf powB λi j=>.int (i^j.toNat)
theorem zm7 {i j:Int}(h:zgr i j=true):0<j∧j<1073741824:=by
 unfold zgr at h
 simpa using h
theorem zbq:OpR X (binaryOp .FloorDiv) (upO X.K Z zqk):=opIf zby λi j h=>by
 obtain⟨h1,h2⟩:=zm7 h
 refine⟨h1,?_⟩
 have:j.natAbs.log2<30:=(Nat.log2_lt (by omega)).mpr (by omega)
 omega
theorem zbf:OpR X (binaryOp .Mod) (upO X.K Z wModL):=opIf zbu λi j h=>(zm7 h).1
theorem zeP:OpR X (binaryOp .Pow) (upO X.K Z wPowL):=opIf zqw λi j h=>by
 unfold powB at h
 simp at h
 refine⟨h.1.1.1,by have:=h.1.1.2; omega,?_⟩
 have h3:=h.1.2
 have h4:=h.2
 have big:(18446744073709551616:Nat)=2^64:=by decide
 omega
structure Df (K:PySem.W.Frag)(mg:Str→Option Value)(x:Str)(st:Stmt)(ps:List Str) where
 f:Addr
 fd:FuncData
 F:Fun K x x st f fd
 m:mg x=some (.ref f)
 b:zbi K fd ps []
structure Fk (P:Program)(w:World)(K:PySem.W.Frag)(mg:Str→Option Value)(base:Heap)(k:Nat)(x:Str)(ps:List Str)(sd:Sd) where
 f:Addr
 fd:FuncData
 ok:zaZ P w K mg base (CXE P w) k f fd ps (upF K sd)
 m:mg x=some (.ref f)
 kp:PySem.W.keepIn K (.ref f)=true
 b:zbi K fd ps []
def Df.mk' {P:Program}{w:World}{K:PySem.W.Frag}{mg:Str→Option Value}{base:Heap}{k:Nat}{x:Str}{st:Stmt}{ps:List Str}{sd:Sd}(d:Df K mg x st ps)(h:zaZ P w K mg base (CXE P w) k d.f d.fd ps (upF K sd)):Fk P w K mg base k x ps sd:=
 ⟨d.f,d.fd,h,d.m,d.F.kp,d.b⟩
theorem zlz {x:Str}{p pos:Pos}{e:Expr}{es:List Expr}{t:TDA}{k:Nat}{ps:List Str}{sd:Sd}{ex:Ev→Addr→Sto→Prop}{W:St→XK}(G:Fk X.prog X.w X.K X.mg X.base k x ps sd)(hr:zaE k X.A)(hx:zcz X W)(hg:Gl X x)(ha:PDA X ⟨ex,W⟩ (e::es) t)
  (hdb:(x==("__debug__":Str))=false:=by decide)(he:starEach (e::es) X.env=(false,eval e X.env)::starEach es X.env:=by rfl)(hpl:(backTo pos (starEach es X.env)).any (·.1)=false:=by rfl):
  PD X ⟨ex,W⟩ (.Call (.Name x p) (e::es) [] pos) (ziZ ex sd t):=zpU G.ok hr hg G.m G.kp G.b hx ha hdb he hpl
end
def zeR:Sd:=λds S Q _=>∃ns:List Int,ds=[.ref 0]∧S=[.frz (ns.map D.int)]∧ns.length≤63∧∀S',Q (.bl true) S'
theorem zp8:∀ds S Q ex,zeR ds S Q ex→ds.length=1:=λds S Q ex h=>by
 obtain⟨ns,rfl,_⟩:=h
 rfl
theorem zqf {K:PySem.W.Frag}{H:Hp}{a:Addr}{xs:List V}(hO:zfi H)(h:SqL K H a xs):SqF K H a xs:=by
 rcases h with (h | ⟨o,h⟩) | h
 ·rcases hO a with z | ⟨o,ys,z⟩
  ·rw[h] at z; cases z
  ·rw[h] at z; cases z
 ·exact .inl ⟨o,h⟩
 ·exact .inr h
theorem znR {r:List Addr}{H:Hp}(ns:List Int):Rps r H (ns.map D.int) (ns.map V.int):=by
 refine⟨by simp,λi d v h1 h2=>?_⟩
 rw[Vah] at h1 h2
 cases q:ns[i]? with
 | none=>rw[q] at h1; cases h1
 | some z=>
  rw[q] at h1 h2
  cases h1
  cases h2
  exact .int z
theorem zn5 {K:PySem.W.Frag}{H:Hp}{a:Addr}{ns:List Int}(hl:ns.length≤63)(hO:zfi H)(hS:SqL K H a (ns.map V.int)):upF K zeR [.ref a] H (λv _=>v=.bl true) λ_ _ _=>False:=by
 refine⟨λ_ _=>False,[a],[.frz (ns.map D.int)],[.ref 0],λd _=>d=.bl true,⟨⟨rfl,λn b o h1 h2=>?_,λn m b xs ys h1 h2 h3 h4 o1 o2=>?_⟩,λ_ _ _ _ _ _ _ _ _ z=>z.elim⟩,Rps.cons (.ref rfl) Rps.nil,⟨ns,rfl,rfl,hl,λ_=>rfl⟩,λv H' r' d S' e rel p q=>?_⟩
 ·cases n with
  | zero=>
   simp at h1 h2
   subst h1; subst h2
   exact⟨_,zqf hO hS,znR ns⟩
  | succ n=>simp at h1
 ·cases n with
  | zero=>
   simp at h3
   subst h3
   cases o1
  | succ n=>simp at h1
 ·subst q
  cases p
  rfl
theorem zpe {l:PySem.W.OpenLaw}{q:Program}{loose:List Str}{XP:(Str→Option Value)→Heap→Prop}{YP:World→Heap→Prop}{d:DefRec}{K:Params→PySem.W.Frag}{x:Str}(k:Nat)(hn:l.most=some 63)(hdf:d.params.defaults=[])(hr:zaE k callerA)
  (hY:∀(w:World) (h:Heap),YP w h→(K w.params).In h)
  (F:∀(w:World) (mg:Str→Option Value) (fa:Addr) (h:Heap),(K w.params).In h→h.Ns mainGlobals mg→mg d.name=some (.ref fa)→
   ∃fd:FuncData,(∀(s:Shared) (u:Value),BindsTo s fd ⟨[u],[]⟩ [(x,u)])∧∀base:Heap,(K w.params).In base→base.Ns mainGlobals mg→zaZ l.prog w (K w.params) mg base (CXE l.prog w) k fa fd [x] (upF (K w.params) zeR)):
  PySem.W.WalkO q loose XP YP l.row.toRowW d [] (λf vs=>PySem.call f vs):=
 L2.zpq (n:=63) (k:=k) (x:=x) (CX:=λw=>CXE l.prog w) (sp:=λw=>upF (K w.params) zeR) hn (by decide) hdf hr hY F (λ_ _ a ns hl hO hS=>zn5 hl hO hS) λ_ _ _ _ _ ⟨_,_,_,_,_,_,_,_,_,_,_,_,z⟩=>z
theorem zkA (K:PySem.W.Frag)(T:String)(h:T∈["int","bool","tuple","str"]):Kit K T:=by
 intro t ht
 simp only[Vae,Vap,or_false] at h ht
 rcases h with rfl | rfl | rfl | rfl <;> rcases ht with rfl | rfl | rfl | rfl | rfl <;> kernel_rfl
theorem ifF {c:Bool}{A B:Prop}(h:c=false)(b:B):if c=true then A else B:=by rw[h]; exact zb3 b
theorem ifP {c A B:Prop} [Decidable c] (h:c)(a:A):if c then A else B:=by rw[if_pos h]; exact a
theorem ifD {c:Prop} [Decidable c] {A B:Prop}(h1:c→A)(h2:¬ c→B):if decide c=true then A else B:=by
 by_cases h:c
 ·rw[decide_eq_true h]; exact zch (h1 h)
 ·rw[decide_eq_false h]; exact zb3 (h2 h)
open PySem L2
open PySem L2
theorem Sz.pow {n:Nat}{i:Int}(h:Sz n i)(k:Nat):Sz (n*k+1) (i^k):=by
 unfold Sz at *
 rw[Int.natAbs_pow,Nat.pow_succ,Nat.pow_mul]
 have h1:i.natAbs^k≤(2^n)^k:=Nat.pow_le_pow_left (VaN h) k
 have h2:0<(2^n)^k:=Nat.pow_pos (Nat.pow_pos (by decide))
 omega
theorem ifN {c:Prop} [Decidable c] {A B:Prop}(h1:¬ c→A)(h2:c→B):if (!decide c)=true then A else B:=by
 by_cases h:c
 ·rw[decide_eq_true h]; exact L2.zb3 (h2 h)
 ·rw[decide_eq_false h]; exact L2.zch (h1 h)
section
variable {X:Cx}{Z:Zx}
abbrev Cx.held (X:Cx)(pins:List (Addr×Obj))(E:Value→Shared→Prop):Cx:={ X with pn:=X.pn++pins,xe:=E }
end
structure zdC (k:Nat)(A:Around):Prop where
 dp:A.depth+3*k+5<recursionLimit
 un:A.units+16*k+200<cLine
theorem zdC.mono {j k:Nat}{A:Around}(r:zdC k A)(h:j≤k):zdC j A:=⟨by have:=r.dp; omega,by have:=r.un; omega⟩
theorem zdC.deeper {k:Nat}{A:Around}(r:zdC (k+1) A)(env:Env):zdC k (A.deeper env):=
 ⟨by have:=r.dp; show A.depth+1+3*k+5<_; omega,by have:=r.un; show A.units+3+16*k+200<_; omega⟩
structure FnOkN (P:Program)(w:World)(K:PySem.W.Frag)(mg:Str→Option Value)(base:Heap)(k:Nat)(f:Addr)(fd:FuncData)(ps:List Str)(sp:Sp):Prop where
 len:∀vs H Q E,sp vs H Q E→vs.length=ps.length
 run:∀(A:Around) (outer:List Env) (s:Shared) (H:Hp) (args:Args) (us:List Value) (vs:List V) (Q:VK) (E:XK),zdC k A→zcc P w K mg base A outer s H→BindsTo s fd args (ps.zip us)→zaw vs us→sp vs H Q E→
  codeAny (model P w) A (.call (.ref f) args) (CR (CXE P w) outer P w H s Q E) s
section
variable {X:Cx}{k:Nat}{f:Addr}{fd:FuncData}{ps:List Str}{sp:Sp}{W:St→XK}{x:Str}{p pos:Pos}{e:Expr}{es:List Expr}{t:TA}
end
section
variable {X:Cx}{Z:Zx}{x:Str}{p pos:Pos}{e:Expr}{es:List Expr}{t:TDA}
end
section
variable {P:Program}{w:World}{K:PySem.W.Frag}{mg:Str→Option Value}{base:Heap}
end
structure FkN (P:Program)(w:World)(K:PySem.W.Frag)(mg:Str→Option Value)(base:Heap)(k:Nat)(x:Str)(ps:List Str)(sd:Sd) where
 f:Addr
 fd:FuncData
 ok:FnOkN P w K mg base k f fd ps (upF K sd)
 m:mg x=some (.ref f)
 kp:PySem.W.keepIn K (.ref f)=true
 b:zbi K fd ps []
section
variable {X:Cx}{Z:Zx}
open PySem.W in
end
abbrev VE:List Value:=[.type "ValueError",.type "Exception",.type "BaseException",.type "object"]
structure Ec (K:PySem.W.Frag)(mg:Str→Option Value)(x:Str) where
 c:Addr
 xc:Xc K mg x c VE "ValueError.__new__"
theorem qt {Q:DK}{S:Sto}{b:Bool}(e:b=true)(h:Q (.bl true) S):Q (.bl b) S:=by rw[e]; exact h
theorem Sz.div {n:Nat}{i j:Int}(h:Sz n i)(hj:1≤j):Sz n (i/j):=by
 refine Nat.lt_of_le_of_lt ?_ h
 obtain⟨h1,h2⟩:=zo7 i (show 0<j by omega)
 by_cases q:0≤i/j
 ·have:=Int.mul_le_mul_of_nonneg_left hj q
  omega
 ·have:=Int.mul_le_mul_of_nonneg_left hj (show 0≤-(i/j+1) by omega)
  have e:-(i/j+1)*j=-((i/j+1)*j):=Vai _ _
  omega
inductive Sco (n:Nat):D→Prop
 | non:Sco n .non
 | bl (b:Bool):Sco n (.bl b)
 | int (i:Int):Sco n (.int i)
 | str (x:Str):Sco n (.str x)
 | tup {ds:List D}:(∀d∈ds,Sco n d)→Sco n (.tup ds)
 | ref {m:Nat}:m<n→Sco n (.ref m)
 | exc (c:Addr):Sco n (.exc c)
theorem Rp.sco {r:List Addr}{H:Hp}{d:D}{v:V}(h:Rp r H d v):Sco r.length d:=by
 induction h with
 | non=>exact .non
 | bl b=>exact .bl b
 | int i=>exact .int i
 | str x=>exact .str x
 | @tup ds xs a _ l _ ih=>
  refine .tup λd hd=>?_
  obtain⟨i,hi,e⟩:=List.mem_iff_getElem.mp hd
  exact ih i d xs[i] (by simp[hi,e]) (by simp[l ▸ hi])
 | ref h=>exact .ref (Vad.mp h).1
 | exc _=>exact .exc _
theorem Rp.low {r r':List Addr}{H:Hp}{d:D}{v:V}(h:Rp r' H d v)(low:∀m a,m<r.length→r'[m]?=some a→r[m]?=some a)(s:Sco r.length d):Rp r H d v:=by
 induction h with
 | non=>exact .non
 | bl b=>exact .bl b
 | int i=>exact .int i
 | str x=>exact .str x
 | tup e l f ih=>
  cases s with
  | tup s=>exact .tup e l λi d v h1 h2=>ih i d v h1 h2 (s d (Vat h1))
 | ref h=>
  cases s with
  | ref s=>exact .ref (low _ _ s h)
 | exc h=>exact .exc h
def Pre (S S':Sto):Prop:=∀(n:Nat) (o:Ob),S[n]?=some o→S'[n]?=some o
theorem Pre.refl {S:Sto}:Pre S S:=λ_ _ h=>h
theorem Pre.push {S S':Sto}{o:Ob}(h:Pre S S'):Pre S (S'++[o]):=λn u e=>by
 have z:=h n u e
 rw[Var (Vad.mp z).1]; exact z
theorem Pre.trans {S S' S2:Sto}(h:Pre S S')(k:Pre S' S2):Pre S S2:=λn o e=>k n o (h n o e)
theorem zfN {r r':List Addr}{H H':Hp}(e:Ext r r' H H'):∀m a,m<r.length→r'[m]?=some a→r[m]?=some a:=λm a hm h=>by
 have z:r[m]?=some r[m]:=by simp[hm]
 rw[e.adr _ _ z] at h
 rw[z]; exact h
theorem zaR.low {K:PySem.W.Frag}{r r':List Addr}{S S':Sto}{H H':Hp}(h:zaR K r S H)(e:Ext r r' H H')(h':zaR K r' S' H')(p:Pre S S'):zaR K r S H':=by
 have rl:∀ {ds:List D} {xs ys:List V},Rps r H ds xs→Rps r' H' ds ys→Rps r H' ds ys:=λ{ds xs ys} a b=>⟨b.1,λi d v h1 h2=>by
  obtain⟨v0,_,q⟩:=a.get h1
  exact(b.2 i d v h1 h2).low (zfN e) q.sco⟩
 refine⟨h.len,λn a o h1 h2=>?_,λn m a xs ys h1 h2 h3 h4 o1 o2=>h'.nd n m a xs ys (e.adr _ _ h1) (e.adr _ _ h2) (p _ _ h3) (p _ _ h4) o1 o2⟩
 have q:=h.ob n a o h1 h2
 have q':=h'.ob n a o (e.adr _ _ h1) (p _ _ h2)
 cases o with
 | lst ds=>
  obtain⟨xs,_,a1⟩:=q
  obtain⟨ys,b0,b1⟩:=q'
  exact⟨ys,b0,rl a1 b1⟩
 | frz ds=>
  obtain⟨xs,_,a1⟩:=q
  obtain⟨ys,b0,b1⟩:=q'
  exact⟨ys,b0,rl a1 b1⟩
 | ins C fs=>
  obtain⟨_,_,_,a1⟩:=q
  obtain⟨dx,fs',b0,b1⟩:=q'
  exact⟨dx,fs',b0,b1.1,rl a1.2 b1.2⟩
 | dct kvs=>
  obtain⟨_,_,a1⟩:=q
  obtain⟨ks,b0,b1⟩:=q'
  exact⟨ks,b0,b1.1,rl a1.2 b1.2⟩
def Gc (S:Sto)(Q:DK):DK:=λd S'=>Pre S S'∧Sco S.length d∧Q d S
def GcX (S:Sto)(ex:Addr→Sto→Prop):Addr→Sto→Prop:=λc S'=>Pre S S'∧ex c S
theorem Ret.gc {K:PySem.W.Frag}{Z Z':Zx}{r:List Addr}{S:Sto}{H:Hp}{Q:DK}{Qv:VK}(h:Ret K Z r H Q Qv)(rel:Rel K Z r S H):Ret K Z' r H (Gc S Q) Qv:=λv H' r' d S' e rel' p q=>by
 obtain⟨pre,sc,q⟩:=q
 have e':Ext r r H H':=⟨λ_ _ z=>z,e.tup,e.xc⟩
 rw[← rel.len] at sc
 exact h v H' r d S e' ⟨rel.b.low e rel'.b pre,rel.xw.ext e'⟩ (p.low (zfN e) sc) q
theorem zdz.gc {K:PySem.W.Frag}{ex:Addr→Sto→Prop}{E:XK}{r:List Addr}{S:Sto}{H:Hp}(rel:Rel K (Zc ex E) r S H):zdz K (Zc (GcX S ex) E) r H:=λdl σ c H' r' S' e _ rb q=>by
 obtain⟨pre,q⟩:=q
 have e':Ext r r H H':=⟨λ_ _ z=>z,e.tup,e.xc⟩
 exact rel.xw [] [] c H' r S e' ⟨rfl,λi d z=>by simp at z⟩ (rel.b.low e rb pre) q
section
variable {P:Program}{w:World}{K:PySem.W.Frag}{mg:Str→Option Value}{base:Heap}
def gcS (sd:Sd):Sd:=λds S Q ex=>∃Q0 ex0,Q=Gc S Q0∧ex=GcX S ex0∧sd ds S Q0 ex0
theorem zkP {CX:CXT}{k:Nat}{f:Addr}{fd:FuncData}{ps:List Str}{sd:Sd}(h:zaZ P w K mg base CX k f fd ps (upF K (gcS sd))):zaZ P w K mg base CX k f fd ps (upF K sd):=by
 have imp:∀vs H Q E,upF K sd vs H Q E→upF K (gcS sd) vs H Q E:=λvs H Qv E ⟨ex,r,S,ds,Q,rel,p,q,ret⟩=>
  ⟨GcX S ex,r,S,ds,Gc S Q,⟨rel.b,zdz.gc rel⟩,p,⟨Q,ex,rfl,rfl,q⟩,ret.gc rel⟩
 obtain⟨h1,h2⟩:=h
 exact⟨λvs H Q E q=>h1 vs H Q E (imp vs H Q E q),λA outer s H args us vs Q E hr e0 hb rv q=>h2 A outer s H args us vs Q E hr e0 hb rv (imp vs H Q E q)⟩
end
theorem zlA {sd:Sd}{n:Nat}(len:∀ds S Q ex,sd ds S Q ex→ds.length=n):∀ds S Q ex,gcS sd ds S Q ex→ds.length=n:=λds S Q ex h=>by
 obtain⟨Q0,ex0,_,_,h⟩:=h
 exact len _ _ _ _ h
structure zc9 (sc around:Scope)(x:Str)(caps:List Str):Prop where
 kind:sc.kind=.function
 nocell:∀y∈sc.names,y.2≠.cell
 own:∀y∈sc.names,y.2=.local→sc.names.lookup y.1=some .local
 loc:sc.names.lookup x=some .local
 cap:∀y∈caps,sc.names.lookup y=some .free
 out:∀y∈sc.names,y.2=.free→around.names.lookup y.1=some .cell
theorem zk1 {α:Type}{y:Str}{v:α}:∀ {l:List (Str×α)},l.lookup y=some v→(y,v)∈l
 | [],h=>by simp at h
 | (n,k)::r,h=>by
  cases e:y==n with
  | true=>
   rw[Vam,e] at h
   have z:k=v:=Option.some.inj h
   have z2:y=n:=by simpa using e
   rw[z,z2]; exact VaT
  | false=>
   rw[Vam,e] at h
   exact Vaz _ (zk1 h)
theorem zky {env:Env}:∀(l:List (Str×NameKind)) (acc:List (Str×Addr)),(∀y∈l,y.2=.free→∃c,env.cells.lookup y.1=some c)→(∀x c,acc.lookup x=some c→env.cells.lookup x=some c)→
  ∃cl,(forIn l acc λx r=>(if (x.2==NameKind.free)=true then do let a ← cellOf env x.1; pure (ForInStep.yield ((x.1,a)::r)) else pure (ForInStep.yield r):Sem (ForInStep (List (Str×Addr)))))=pure cl∧
   (∀x c,cl.lookup x=some c→env.cells.lookup x=some c)∧(∀y∈l,y.2=.free→cl.lookup y.1=env.cells.lookup y.1)∧∀x c,acc.lookup x=some c→∃c',cl.lookup x=some c'
 | [],acc,_,ha=>⟨acc,by simp,ha,λy hy=>(by cases hy),λx c e=>⟨c,e⟩⟩
 | (n,k)::r,acc,h,ha=>by
  cases hk:(k==NameKind.free) with
  | false=>
   obtain⟨cl,h1,h2,h3,h4⟩:=zky r acc (λy hy=>h y (Vaz _ hy)) ha
   refine⟨cl,?_,h2,λy hy hf=>?_,h4⟩
   ·rw[List.forIn_cons]; simp[hk]; simpa using h1
   ·have hy':=Vae.mp hy
    rcases hy' with rfl | hy
    ·rw[show k=NameKind.free from hf] at hk; exact absurd hk (by decide)
    ·exact h3 y hy hf
  | true=>
   have hf:k=NameKind.free:=by simpa using hk
   obtain⟨c,hc⟩:=h (n,k) VaT hf
   obtain⟨cl,h1,h2,h3,h4⟩:=zky r ((n,c)::acc) (λy hy=>h y (Vaz _ hy)) (λx c' e=>by
    cases q:x==n with
    | true=>
     rw[Vam,q] at e
     have z:x=n:=by simpa using q
     rw[z,hc]; exact e
    | false=>
     rw[Vam,q] at e
     exact ha x c' e)
   refine⟨cl,?_,h2,λy hy hf=>?_,λx c' e=>?_⟩
   ·have ec:cellOf env n=pure c:=by unfold cellOf; rw[hc]
    rw[List.forIn_cons]; simp[hk,ec]; simpa using h1
   ·have hy':=Vae.mp hy
    rcases hy' with rfl | hy
    ·obtain⟨c',e⟩:=h4 n c (by simp)
     rw[e]; exact(h2 _ _ e).symm
    ·exact h3 y hy hf
   ·refine h4 x (if x==n then c else c') ?_
    cases q:x==n with
    | true=>simp[Vam,q]
    | false=>simp[Vam,q,e]
theorem zpC {sc:Scope}{env:Env}(h:∀y∈sc.names,y.2=.free→∃c,env.cells.lookup y.1=some c):
  ∃cl,closureFor sc env=pure cl∧(∀x c,cl.lookup x=some c→env.cells.lookup x=some c)∧∀y∈sc.names,y.2=.free→cl.lookup y.1=env.cells.lookup y.1:=by
 obtain⟨cl,h1,h2,h3,_⟩:=zky sc.names [] h (λx c e=>by simp at e)
 refine⟨cl,?_,h2,h3⟩
 unfold closureFor
 simp only[bind_pure]
 exact h1
theorem zl2 {env:Env}:∀ {names:List (Str×NameKind)} {x:Str},names.lookup x=some .free→
  (names.map λ(n,k)=>if (k==NameKind.free&&env.scope.kind==.function&&env.kindOf n==some .cell) then (n,NameKind.cell) else (n,k)).lookup x=some .cell∨
  (names.map λ(n,k)=>if (k==NameKind.free&&env.scope.kind==.function&&env.kindOf n==some .cell) then (n,NameKind.cell) else (n,k)).lookup x=some .free
 | [],_,h=>by simp at h
 | (n,k)::r,x,h=>by
  have ih:=@zl2 env r x
  rw[Vak]
  cases hx:x==n with
  | true=>
   rw[Vam,hx] at h
   have hk:k=.free:=Option.some.inj h
   subst hk
   dsimp only
   split
   ·left; simp[Vam,hx]
   ·right; simp[Vam,hx]
  | false=>
   rw[Vam,hx] at h
   dsimp only
   split
   ·simp only[Vam,hx]; exact ih h
   ·simp only[Vam,hx]; exact ih h
theorem zma {env:Env}:∀ {names:List (Str×NameKind)} {x:Str},(∀y∈names,y.2≠.cell)→
  ((names.map λ(n,k)=>if (k==NameKind.free&&env.scope.kind==.function&&env.kindOf n==some .cell) then (n,NameKind.cell) else (n,k)).lookup x=some .cell∨
  (names.map λ(n,k)=>if (k==NameKind.free&&env.scope.kind==.function&&env.kindOf n==some .cell) then (n,NameKind.cell) else (n,k)).lookup x=some .free)→names.lookup x=some .free
 | [],_,_,h=>by simp at h
 | (n,k)::r,x,hc,h=>by
  have ih:=@zma env r x λy hy=>hc y (Vaz _ hy)
  rw[Vak] at h
  cases hx:x==n with
  | true=>
   rw[Vam,hx]
   dsimp only at h
   split at h
   ·rename_i q
    simp only[Bool.and_eq_true] at q
    have hk:k=.free:=by simpa using q.1.1
    rw[hk]
   ·simp only[Vam,hx] at h
    rcases h with h | h
    ·exact absurd (Option.some.inj h) (hc (n,k) VaT)
    ·exact h
  | false=>
   rw[Vam,hx]
   dsimp only at h
   split at h
   ·simp only[Vam,hx] at h; exact ih h
   ·simp only[Vam,hx] at h; exact ih h
abbrev Cx.comp (X:Cx)(sc:Scope)(N:List Str)(cl:List (Str×Addr))(C:Addr)(s0:Shared)(H0:Hp)(fp:List Addr)(pn:List (Addr×Obj)):Cx:=
 { X with N:=N,env:=compEnvC sc cl C X.env,s₀:=s0,H₀:=H0,outer:=X.stack,stack:=X.stack,ex:=fp,fn:=λ_=>false,pn:=pn,xe:=λ_ _=>False }
def zbs (caps:List Nat)(σ:St):St:=caps.map λj=>(σ[j]?).join
def zcm (caps:List Nat)(dl:Ev):Ev:=caps.map λj=>(dl[j]?).join
def zgt (caps:List Nat)(wi:TI)(tc:TT)(te:TE):TE:=λσ H Q=>wi σ H λJ H1=>∀D,H1 D=none→∃W:Nat→Nat→Hp→Prop,(∃m,W 0 m (upd H1 D (.lst [])))∧∀i m H,W i m H→
 (J.stop i H∧Q (.ref D) H)∨(J.go i H∧∀x H',J.yld i H x H'→tc (some x::zbs caps σ) H' λb H2=>if b=true then te (some x::zbs caps σ) H2 λy H3=>∃ys,H3 D=some (.lst ys)∧ys.length<sizeLine∧∃m',m'<m∧W (i+1) m' (upd H3 D (.lst (ys++[y])))
  else ∃m',m'<m∧W (i+1) m' H2)
def PTs (Y:Cx)(ifs:List Expr)(tc:TT):Prop:=∀(pins:List (Addr×Obj)) (s:Shared) (σ:St) (H:Hp) (Q:Bool→Hp→Prop),Inv Y pins σ H s→tc σ H Q→
 wpAny (model Y.prog Y.w) Y.A (forIn ifs true λc r=>if r=true then do let ok ← isTrue c Y.env (eval c Y.env); pure (ForInStep.yield ok) else pure (ForInStep.yield r)) (TP Y pins σ Q) Y.xe s
theorem zpB {Y:Cx}:PTs Y [] (λ_ H Q=>Q true H):=λ_ _ _ H _ I h=>wpAny_tests_nil ⟨H,I,h⟩
theorem zsw {Y:Cx}{c:Expr}{tc:TT}(h:PT Y c tc):PTs Y [c] tc:=λpins s σ H Q I q=>wpAny_tests_one (h pins s σ H Q I q)
section
variable {X:Cx}{pins:List (Addr×Obj)}{σ:St}{H:Hp}{s:Shared}
theorem zrD {sc:Scope}{x:Str}{N:List Str}{caps:List Nat}{cl:List (Str×Addr)}{fp:List Addr}{h1:Heap}{m:Str→Option Value}{tk:Nat}(I:Inv X pins σ H s)(cs:zc9 sc X.env.scope x N)
  (hN:∀(j:Nat) (y:Str),N[j]?=some y→∃i,caps[j]?=some i∧X.N[i]?=some y)(hlen:caps.length=N.length)
  (c1:∀x c,cl.lookup x=some c→X.env.cells.lookup x=some c)(c2:∀y∈sc.names,y.2=.free→cl.lookup y.1=X.env.cells.lookup y.1)
  (hf:∀b∈fp,zcN X pins H b)(hfo:∀b∈fp,b<s.heap.objs.size)(hns:h1.Ns s.heap.objs.size m)(hk:∀b o,s.heap.get? b=some o→h1.get? b=some o):
  Inv (Cx.comp X sc (x::N) cl s.heap.objs.size s H fp (X.pn++pins)) [] (none::zbs caps σ) H { s with heap:=h1,toks:=tk }:=by
 have stk:∀b∈frs X.stack,b=X.env.locals∨b∈X.fs:=λb hb=>Vae.mp (I.stkSub b hb)
 refine⟨⟨I.ok.mod,cs.kind,I.ok.glob,I.ok.blt,Vaa _,λa b c h1 h2=>I.ok.inj a b c (c1 _ _ h1) (c1 _ _ h2),λy hy=>?_,λ_ _ z=>Bool.noConfusion z,I.ok.hd,I.ok.frames,.inl rfl,λb hb=>⟨Vaq (hfo b hb),λy c e=>(hf b hb).2.2.2.2.1 y c (c1 _ _ e)⟩,
  I.bs,Vas I.ok.bsz I.sz,λb o e hb=>?_,λb hb z=>?_,I.stack,I.stkFree⟩,rfl,I.bare,Un.kept hk,⟨m,hns,λi y v e1 e2 e3=>?_⟩,λy c e=>?_,I.hok.fresh (Vaa _),λy c e=>I.freeC y c (c1 _ _ e),λp hp=>?_,I.hok.kept hk,?_⟩
 ·have hfr:sc.names.lookup y=some .free:=zma cs.nocell hy
  have hm:=zk1 hfr
  obtain⟨c,e⟩:=I.ok.has y (.inl (cs.out _ hm rfl))
  exact⟨c,(c2 _ hm rfl).trans e⟩
 ·rcases (hf b hb).2.2.2.1 with z | z
  ·exact I.ok.noex b o e z
  ·exact absurd (Vao (Heap.lt_size (I.ok.bs b o e).1) z) (VaG _)
 ·rcases stk b z with z | z
  ·exact(hf b hb).2.1 z
  ·exact(hf b hb).2.2.1 z
 ·cases i with
  | zero=>simp at e2
  | succ i=>
   have e1':N[i]?=some y:=by simpa using e1
   obtain⟨j,hj,hy⟩:=hN i y e1'
   have e2':σ[j]?=some (some v):=by
    simp only[List.getElem?_cons_succ,zbs,Vah,hj,Option.map_some,Option.some.injEq] at e2
    cases q:σ[j]? with
    | none=>rw[q] at e2; cases e2
    | some o=>rw[q] at e2; simp at e2; rw[e2]
   have hfr:sc.names.lookup y=some .free:=cs.cap y (Vat e1')
   have hm:=zk1 hfr
   have hce:X.env.scope.names.lookup y=some .cell:=cs.out _ hm rfl
   obtain⟨m0,_,hl⟩:=I.loc
   obtain⟨u,r,l⟩:=hl j y v hy e2' (.inr (.inl hce))
   refine⟨u,r,.inr ⟨zl2 hfr,?_⟩⟩
   rcases l with ⟨k,_⟩ | ⟨_,c,ec,hcell⟩
   ·rw[show X.env.kindOf y=some .cell from hce] at k; cases k
   ·exact⟨c,(c2 _ hm rfl).trans ec,hcell.keeps hk⟩
 ·obtain⟨v,z⟩:=I.cell y c (c1 _ _ e)
  exact⟨v,z.keeps hk⟩
 ·have hp':p∈X.pn++pins:=by simpa using hp
  obtain⟨p1,p2,p3,p4,p5⟩:=I.pin p hp'
  refine⟨hk _ _ p1,p2,Vaq (Heap.lt_size p1),λz=>?_,p5⟩
  rcases stk _ z with z | z
  ·exact p3 z
  ·exact p4 z
 ·simp[zbs,hlen]
end
section
variable {X:Cx}{elt iter:Expr}{x:Str}{px pos:Pos}{ifs:List Expr}{sc:Scope}{N:List Str}{caps:List Nat}{wi:TI}{tc:TT}{te:TE}
structure zss (X:Cx)(pins:List (Addr×Obj))(σ:St)(C:Addr)(Q:VK)(D:Addr)(s':Shared):Prop where
 q:∃H',Inv X pins σ H' s'∧Q (.ref D) H'∧H' C=none
 ns:∃m,s'.heap.Ns C m
 loc:C≠X.env.locals
 old:X.s₀.heap.objs.size≤C
 cell:∀x c,X.env.cells.lookup x=some c→c≠C
 pin:∀p∈X.pn++pins,p.1≠C
theorem zmx {use:Option (Value→Sem Unit)}{Qr:Value→Shared→Prop}(hc:X.calm=true)(cs:zc9 sc X.env.scope x N)(hN:∀(j:Nat) (y:Str),N[j]?=some y→∃i,caps[j]?=some i∧X.N[i]?=some y)(hlen:caps.length=N.length)(hnd:(x::N).Nodup)
  (hi:PI X (.Name x px) iter wi)(ht:∀cl C s0 H0 fp pn,PTs (Cx.comp X sc (x::N) cl C s0 H0 fp pn) ifs tc)(he:∀cl C s0 H0 fp pn,PE (Cx.comp X sc (x::N) cl C s0 H0 fp pn) elt te)
  (hs:∀y,foldedSetIterable iter X.env y=pure y)
  {pins:List (Addr×Obj)}{s:Shared}{σ:St}{H:Hp}{Q:VK}{p2:Pos}(I:Inv X pins σ H s)(h:zgt caps wi tc te σ H Q)
  (fin:∀D C s',zss X pins σ C Q D s'→compPost (model X.prog X.w) X.A X.xe use Qr (.ref D) C (.ok .next) s'):
  wpAny (model X.prog X.w) X.A (comprehension (.ListComp elt [⟨.Name x px,iter,ifs,0⟩] sc pos) sc X.env p2 (newList []) false (eval iter X.env) use) Qr X.xe s:=by
 obtain⟨cl,k1,k2,k3⟩:=zpC (sc:=sc) (env:=X.env) λy hy hf=>I.ok.has y.1 (.inl (cs.out y hy hf))
 refine wpAny_comprehension_free rfl hs k1 cs.kind cs.own (thn (hi pins s σ H _ I h) λv s1 h1=>thn h1 λitv s2 h2=>?_)
 obtain⟨it,fp,tn,J,H2,e,I2,T,st2,f2,body⟩:=h2
 subst e
 have hfo:∀b∈fp,b<s2.heap.objs.size:=λb hb=>by
  obtain⟨o,e,_⟩:=T.obj _ _ st2 b hb
  exact Heap.lt_size e
 have hD:H2 s2.heap.objs.size=none:=I2.hok.fresh (Vaa _)
 obtain⟨W,⟨m0,w0⟩,turn⟩:=body _ hD
 refine wpAny_newObj_type ?_
 have I3:Inv X pins σ (upd H2 s2.heap.objs.size (.lst [])) { s2 with heap:=s2.heap.push { cls:=.type "list",dict:=none,data:=.seq ([]:List Value).toArray },toks:=s2.toks }:=
  I2.laid (t':=s2.toks) (λb u e=>Heap.get?_push_of_some _ e) (Vaa _) ⟨VaU _,[],0,.nil,Heap.get?_push_size _ rfl⟩
 generalize hs3:({ s2 with heap:=s2.heap.push { cls:=.type "list",dict:=none,data:=.seq ([]:List Value).toArray },toks:=s2.toks }:Shared)=s3 at I3
 have es3:({ s2 with heap:=s2.heap.push { cls:=.type "list",dict:=none,data:=.seq ([]:List Value).toArray } }:Shared)=s3:=hs3
 try rw[es3]
 have f3:∀b∈fp,zcN X pins (upd H2 s2.heap.objs.size (.lst [])) b:=λb hb=>⟨by rw[za4 (Vaq (hfo b hb))]; exact(f2 b hb).1,(f2 b hb).2⟩
 have up3:∀b o,s2.heap.get? b=some o→s3.heap.get? b=some o:=λb o e=>by rw[← hs3]; exact Heap.get?_push_of_some _ e
 have st3:tn 0 s3.heap:=T.keep _ _ _ st2 λb _ o e=>up3 b o e
 have hfo3:∀b∈fp,b<s3.heap.objs.size:=λb hb=>by
  obtain⟨o,e,_⟩:=T.obj _ _ st3 b hb
  exact Heap.lt_size e
 refine wpAny_newFunctionEnv cs.nocell (λy hy=>by simp at hy) (λh4 ns4 sb4=>?_) cs.kind
 have hk4:∀b o,s3.heap.get? b=some o→h4.get? b=some o:=λb o e=>(sb4.2 b (Vaq (Heap.lt_size e))).trans (Heap.get?_push_of_some _ e)
 have I4:=zrD (tk:=s3.toks+([]:List (Str×Value)).length) I3 cs hN hlen k2 k3 f3 hfo3 ns4 hk4
 generalize hs4:({ s3 with heap:=h4,toks:=s3.toks+([]:List (Str×Value)).length }:Shared)=s4 at I4 ⊢
 have eh4:s4.heap=h4:=by rw[← hs4]
 have st4:tn 0 s4.heap:=by rw[eh4]; exact T.keep _ _ _ st3 λb _ o e=>hk4 b o e
 have fY:∀ {H':Hp},(∀b∈fp,H' b=none)→∀b∈fp,zcN (Cx.comp X sc (x::N) cl s3.heap.objs.size s3 (upd H2 s2.heap.objs.size (.lst [])) fp (X.pn++pins)) [] H' b:=λhn b hb=>by
  obtain⟨_,z2,z3,z4,z5,z6⟩:=f3 b hb
  refine⟨hn b hb,Vaq (hfo3 b hb),λz=>?_,.inl hb,λy c e=>z5 y c (k2 _ _ e),λp hp=>z6 p (by simpa using hp)⟩
  rcases Vae.mp (I3.stkSub b z) with z | z
  ·exact z2 z
  ·exact z3 z
 have locY:(Cx.comp X sc (x::N) cl s3.heap.objs.size s3 (upd H2 s2.heap.objs.size (.lst [])) fp (X.pn++pins)).env.scope.names.lookup x=some .local:=lookup_relabel_local cs.loc
 have loop:codeAny (model X.prog X.w) X.A (.compLoop (.ListComp elt [⟨.Name x px,iter,ifs,0⟩] sc pos) 0 (.ref it) (.ref s2.heap.objs.size) (compEnvC sc cl s3.heap.objs.size X.env))
   (compPost (model X.prog X.w) X.A X.xe use Qr (.ref s2.heap.objs.size) s3.heap.objs.size) s4:=by
  refine codeAny_compLoop_tests (λn s'=>∃i o H',Inv (Cx.comp X sc (x::N) cl s3.heap.objs.size s3 (upd H2 s2.heap.objs.size (.lst [])) fp (X.pn++pins)) [] (o::zbs caps σ) H' s'∧tn i s'.heap∧(∀b∈fp,H' b=none)∧W i n H') ?_ m0
   ⟨0,none,_,I4,st4,λb hb=>(f3 b hb).1,w0⟩
  rintro n s5 ⟨i,o,H5,I5,st5,fr5,w5⟩
  rcases turn i n H5 w5 with ⟨stop,q⟩ | ⟨go,step⟩
  ·refine thn (T.done (Cx.comp X sc (x::N) cl s3.heap.objs.size s3 (upd H2 s2.heap.objs.size (.lst [])) fp (X.pn++pins)) rfl rfl rfl hc i [] s5 _ H5 _ I5 (fY fr5) st5 stop) λr s6 ⟨hr,I6⟩=>?_
   subst hr
   refine fin _ _ _ ⟨⟨H5,I3.call' I6.os I6.base I6.hok I6.bare (λb hb=>?_),q,I6.free⟩,?_,Nat.ne_of_gt I3.lt,I3.sz,λy c e z=>?_,λp hp z=>?_⟩
   ·obtain⟨_,z2,z3,z4,z5,z6⟩:=f3 b hb
    exact⟨z4,z2,z5,z6⟩
   ·obtain⟨m,hm,_⟩:=I6.loc
    exact⟨m,hm⟩
   ·obtain⟨v,hv⟩:=I3.cell y c e
    exact absurd (z ▸ hv.lt) (VaG _)
   ·exact absurd (z ▸ Heap.lt_size (I3.pin p hp).1) (VaG _)
  ·refine thn (T.item (Cx.comp X sc (x::N) cl s3.heap.objs.size s3 (upd H2 s2.heap.objs.size (.lst [])) fp (X.pn++pins)) rfl rfl rfl hc i [] s5 _ H5 _ I5 (fY fr5) st5 go) λr s6 ⟨u,hr,h6⟩=>?_
   subst hr
   show wpAny _ _ (letOwnedTupleGo (.Name x px) (.ref it) u >>= λ_=>assign (.Name x px) (compEnvC sc cl s3.heap.objs.size X.env) u) _ _ s6
   refine wpAny_bind (thn h6 λ_ s7 ⟨y,H7,I7,r7,y7,st7,fr7⟩=>?_)
   have I7':=I7.pinned (fY fr7) (T.obj _ _ st7)
   refine wpAny_mono (zll (X:=Cx.comp X sc (x::N) cl s3.heap.objs.size s3 (upd H2 s2.heap.objs.size (.lst [])) fp (X.pn++pins)) (pos:=px) hnd (i:=0) rfl (.inl locY) (.inr locY) _ s7 _ H7 y u (λσ8 H8=>σ8=some y::zbs caps σ∧H8=H7) I7' r7 ⟨rfl,rfl⟩) (λ_ s8 ⟨σ8,H8,I8,e8,e8'⟩=>?_) λ_ _ z=>z.elim
   subst e8
   subst e8'
   have stay:∀ {H':Hp} {s':Shared},Inv (Cx.comp X sc (x::N) cl s3.heap.objs.size s3 (upd H2 s2.heap.objs.size (.lst [])) fp (X.pn++pins)) ([]++zfk fp s7.heap) (some y::zbs caps σ) H' s'→∀m',m'<n→W (i+1) m' H'→
     ∃m,m<n∧∃i o H',Inv (Cx.comp X sc (x::N) cl s3.heap.objs.size s3 (upd H2 s2.heap.objs.size (.lst [])) fp (X.pn++pins)) [] (o::zbs caps σ) H' s'∧tn i s'.heap∧(∀b∈fp,H' b=none)∧W i m H':=λ{H' s'} J m' hm w'=>by
    refine⟨m',hm,i+1,some y,H',J.unpinned,T.keep _ _ _ st7 λb hb o e=>(J.pin (b,o) (VaA _ (VaA _ (zgC hb e)))).1,λb hb=>?_,w'⟩
    obtain⟨o,e,d⟩:=T.obj _ _ st7 b hb
    exact(J.pin (b,o) (VaA _ (VaA _ (zgC hb e)))).2.1
   refine wpAny_mono (ht _ _ _ _ _ _ _ s8 _ H8 _ I8 (step y H8 y7)) (λb s9 ⟨H9,I9,q9⟩=>?_) λ_ _ z=>z.elim
   cases b with
   | false=>
    rw[if_neg Vaj] at q9 ⊢
    obtain⟨m',hm,w9⟩:=q9
    exact stay I9 m' hm w9
   | true=>
    rw[if_pos rfl] at q9 ⊢
    refine wpAny_mono (he _ _ _ _ _ _ _ s9 _ H9 _ I9 q9) (λu2 s10 ⟨z,H10,I10,r10,q10⟩=>?_) λ_ _ z=>z.elim
    obtain⟨ys,hD10,hlt,m',hm,w10⟩:=q10
    refine wpAny_mono (zl7 (X:=(Cx.comp X sc (x::N) cl s3.heap.objs.size s3 (upd H2 s2.heap.objs.size (.lst [])) fp (X.pn++pins))) _ s10 _ H10 (.ref s2.heap.objs.size) [z] (.ref s2.heap.objs.size) [u2] (λ_ H'=>H'=upd H10 s2.heap.objs.size (.lst (ys++[z]))) I10 rfl (.cons r10 .nil) ⟨_,ys,z,rfl,rfl,hD10,hlt,rfl⟩) (λ_ s11 ⟨_,H11,I11,_,e11⟩=>?_) λ_ _ z=>z.elim
    subst e11
    exact stay I11 m' hm w10
 exact codeAny_compStart_list loop (T.self _ 0 s4 _ _ st4 loop)
theorem zgE {X:Cx}{caps:List Nat}{N:List Str}(h:caps.map (λi=>X.N[i]?)=N.map some):(∀(j:Nat) (y:Str),N[j]?=some y→∃i,caps[j]?=some i∧X.N[i]?=some y)∧caps.length=N.length:=by
 refine⟨λj y e=>?_,by simpa using congrArg List.length h⟩
 have z:(caps.map (λi=>X.N[i]?))[j]?=some (some y):=by rw[h,Vah,e]; rfl
 rw[Vah] at z
 cases q:caps[j]? with
 | none=>rw[q] at z; cases z
 | some i=>rw[q] at z; exact⟨i,rfl,by simpa using z⟩
theorem znO (hc:X.calm=true)(cs:zc9 sc X.env.scope x N)(hN:caps.map (λi=>X.N[i]?)=N.map some)(hnd:(x::N).Nodup)
  (hi:PI X (.Name x px) iter wi)(ht:∀cl C s0 H0 fp pn,PTs (Cx.comp X sc (x::N) cl C s0 H0 fp pn) ifs tc)(he:∀cl C s0 H0 fp pn,PE (Cx.comp X sc (x::N) cl C s0 H0 fp pn) elt te)
  (hs:∀y,foldedSetIterable iter X.env y=pure y:=by intro _; rfl):PE X (.ListComp elt [⟨.Name x px,iter,ifs,0⟩] sc pos) (zgt caps wi tc te):=by
 intro pins s σ H Q I h
 rw[eval_ListComp]
 refine zmx (use:=none) hc cs (zgE hN).1 (zgE hN).2 hnd hi ht he hs I h λD C s' f=>?_
 obtain⟨⟨H',I',q,hC⟩,⟨m,ns⟩,l,o,c,p⟩:=f
 exact⟨m,ns,λh' sb=>⟨.ref D,H',I'.turned (t':=s'.toks) (λb ob hb e=>(sb.2 b hb).trans e) hC l (.inr o) c p,rfl,q⟩⟩
theorem znt {i:Nat}{y:Str}{py spos:Pos}(hc:X.calm=true)(cs:zc9 sc X.env.scope x N)(hN:caps.map (λi=>X.N[i]?)=N.map some)(hnd:(x::N).Nodup)
  (hi:PI X (.Name x px) iter wi)(ht:∀cl C s0 H0 fp pn,PTs (Cx.comp X sc (x::N) cl C s0 H0 fp pn) ifs tc)(he:∀cl C s0 H0 fp pn,PE (Cx.comp X sc (x::N) cl C s0 H0 fp pn) elt te)
  (hNd:X.N.Nodup)(hy:X.N[i]?=some y)(hl:X.env.scope.names.lookup y=some .local)
  (hsw:swapsWith (.ListComp elt [⟨.Name x px,iter,ifs,0⟩] sc pos) (some (.Name y py)) spos.line X.env=pure true)
  (hs:∀y,foldedSetIterable iter X.env y=pure y:=by intro _; rfl):PS X (.Assign [.Name y py] (.ListComp elt [⟨.Name x px,iter,ifs,0⟩] sc pos) spos) (λE σ H=>zgt caps wi tc te σ H λv H1=>E.nx (σ.set i (some v)) H1):=by
 intro pins s σ H E I h
 rw[exec_Assign_Name_used (hs:=hsw)]
 refine wpAny_bind (wpAny_standAt ?_); refine wpAny_bind ?_; show wpAny _ _ (comprehension _ sc X.env _ (newList []) false (eval iter X.env) (some (assign (.Name y py) X.env)) >>= λ_=>pure ()) _ _ s
 refine wpAny_bind (thn (zmx (use:=some (assign (.Name y py) X.env)) (Qr:=λ_ s'=>SP X pins E .next s') hc cs (zgE hN).1 (zgE hN).2 hnd hi ht he hs I h λD C s' f=>?_) λ_ s' hq=>wpAny_pure (wpAny_pure hq))
 obtain⟨⟨H',I',q,hC⟩,⟨m,ns⟩,l,o,c,p⟩:=f
 refine wpAny_assign_Name (zlZ (v:=.ref D) I' hNd hy (.inl hl) rfl (λs'' I'' ⟨a,sb,ha⟩=>⟨m,ns.sameBut sb ?_,λh' sb'=>⟨_,H',I''.turned (t':=s''.toks) (λb ob hb e=>(sb'.2 b hb).trans e) hC l (.inr o) c p,q⟩⟩) (.inr hl))
 rcases ha with rfl | ha
 ·exact l
 ·exact Ne.symm (c _ _ ha)
end
section
variable {X:Cx}{Z:Zx}{elt iter:Expr}{x:Str}{px pos:Pos}{ifs:List Expr}{sc ar:Scope}{N:List Str}{caps:List Nat}
theorem zrR {r:List Addr}{H:Hp}{dl:Ev}{σ:St}{d:D}{v:V}(h:Rs r H dl σ)(p:Rp r H d v):Rs r H (some d::zcm caps dl) (some v::zbs caps σ):=by
 refine⟨by simp[zcm,zbs],λi e hi=>?_⟩
 cases i with
 | zero=>simp at hi; subst hi; exact⟨v,rfl,p⟩
 | succ i=>
  simp only[List.getElem?_cons_succ,zcm,Vah] at hi
  cases q:caps[i]? with
  | none=>rw[q] at hi; cases hi
  | some j=>
   rw[q] at hi
   simp only[Option.map_some,Option.some.injEq] at hi
   have hj:dl[j]?=some (some e):=by
    cases q2:dl[j]? with
    | none=>rw[q2] at hi; cases hi
    | some o=>rw[q2] at hi; simp at hi; rw[hi]
   obtain⟨w,h1,h2⟩:=h.2 j e hj
   refine⟨w,?_,h2⟩
   simp only[List.getElem?_cons_succ,zbs,Vah,q,Option.map_some,h1,Option.join_some]
def ze2 (Y:Cx)(ifs:List Expr)(t:TDT):Prop:=PTs Y ifs (upT Y.K Z0 t)
def zdE:TDT:=λ_ S Q=>Q true S
theorem zfo {Y:Cx}:ze2 Y [] zdE:=λpins s σ H Qb I ⟨r,dl,S,Q,rs,rel,q,ret⟩=>zpB pins s σ H Qb I (ret true H r S Ext.refl rel q)
theorem zsx {Y:Cx}{c:Expr}{t:TDT}(h:PDT Y Z0 c t):ze2 Y [c] t:=zsw h
def zdn (caps:List Nat)(tc:TDT)(te:TDE)(k:Nat)(dl:Ev)(d:D)(S:Sto)(nx:Sto→Prop):Prop:=
 tc (some d::zcm caps dl) S λb S1=>if b=true then te (some d::zcm caps dl) S1 λy S2=>match S2[k]? with
  | some (.lst ys)=>ys.length<1000∧nx (S2.set k (.lst (ys++[y])))
  | _=>False
 else nx S1
@[irreducible] def zbD (caps:List Nat)(tl:TDE)(tc:TDT)(te:TDE):TDE:=λdl S Q=>tl dl S λd S1=>match d with
 | .ref n=>(lAt S1 n).isSome=true∧∃W:Nat→Nat→Sto→Prop,(∃m,W 0 m (S1++[.lst []]))∧∀k m S2,W k m S2→match lAt S2 n with
  | some o=>match (zav o)[k]? with
   | some y=>zdn caps tc te S1.length dl y S2 λS3=>∃m',m'<m∧W (k+1) m' S3
   | none=>Q (.ref S1.length) S2
  | none=>False
 | _=>False
@[irreducible] def zfa (caps:List Nat)(ta:TDA)(tc:TDT)(te:TDE):TDE:=λdl S Q=>ta dl S λds S1=>match ds with
 | [.int j]=>(-(2^62)≤j∧j<2^62)∧∃W:Nat→Sto→Prop,W 0 (S1++[.lst []])∧∀k S2,W k S2→
   if k<j.toNat then zdn caps tc te S1.length dl (.int k) S2 λS3=>W (k+1) S3 else Q (.ref S1.length) S2
 | _=>False
theorem zna {tc:TDT}{te:TDE}{r2:List Addr}{H2:Hp}{S1 S2:Sto}{dl:Ev}{σ:St}{D0:Addr}{d:D}{v:V}{nx:Sto→Prop}{Nx:Hp→Prop}(rs:Rs r2 H2 dl σ)(ha:r2[S1.length]?=some D0)(rb:zaR X.K r2 S2 H2)(p:Rp r2 H2 d v)
  (h:zdn caps tc te S1.length dl d S2 nx)(hn:∀r' S' H',Ext r2 r' H2 H'→zaR X.K r' S' H'→nx S'→Nx H'):
  upT X.K Z0 tc (some v::zbs caps σ) H2 λb H3=>if b=true then up X.K Z0 te (some v::zbs caps σ) H3 λy H4=>∃ys,H4 D0=some (.lst ys)∧ys.length<sizeLine∧Nx (upd H4 D0 (.lst (ys++[y]))) else Nx H3:=by
 have rsY:Rs r2 H2 (some d::zcm caps dl) (some v::zbs caps σ):=zrR rs p
 refine⟨r2,_,S2,_,rsY,⟨rb,λ_ _ _ _ _ _ _ _ _ z=>z.elim⟩,h,λb H3 r3 S3 x3 rel3 q3=>?_⟩
 cases b with
 | false=>rw[if_neg Vaj] at q3 ⊢; exact hn r3 S3 H3 x3 rel3.b q3
 | true=>
  rw[if_pos rfl] at q3 ⊢
  refine⟨r3,_,S3,_,rsY.ext x3,rel3,q3,λz H4 r4 dz S4 x4 rel4 p4 q4=>?_⟩
  split at q4
  ·rename_i ys eys
   obtain⟨hl,q4⟩:=q4
   have ha4:r4[S1.length]?=some D0:=x4.adr _ _ (x3.adr _ _ ha)
   obtain⟨zs,hD4,pz⟩:=rel4.b.ob _ _ _ ha4 eys
   obtain⟨rel5,x5⟩:=rel4.b.set ha4 eys (pz.snoc p4)
   exact⟨zs,hD4,by rw[← pz.1]; exact zkB (VaN hl),hn r4 _ _ (x3.trans (x4.trans x5)) rel5 q4⟩
  ·exact q4.elim
theorem zle {r:List Addr}{D0:Addr}{n:Nat}(h:r.length=n):(r++[D0])[n]?=some D0:=by subst h; simp
theorem zno {tl:TDE}{tc:TDT}{te:TDE}{σ:St}{H:Hp}{Qv:VK}(h:up X.K Z (zbD caps tl tc te) σ H Qv):zgt caps (zm2 X.K (up X.K Z tl)) (upT X.K Z0 tc) (up X.K Z0 te) σ H Qv:=by
 obtain⟨r,dl,S,Q,rs,rel,h,ret⟩:=h
 unfold zbD at h
 refine⟨r,dl,S,_,rs,rel,h,λv H1 r1 d S1 x1 rel1 p1 q1=>?_⟩
 cases p1 with
 | @ref n a hn=>
  obtain⟨hsome,W,⟨m0,w0⟩,turn⟩:=q1
  have sql:∀ {r':List Addr} {S':Sto} {H':Hp} {o:Ob},Ext r1 r' H1 H'→zaR X.K r' S' H'→lAt S' n=some o→∃xs,SqL X.K H' a xs∧Rps r' H' (zav o) xs:=λ{r' S' H' o} x' rel' eo=>by
   obtain⟨eo,eL⟩:=zcx eo
   obtain⟨a',ha,ob⟩:=rel'.at eo
   rw[x'.adr n a hn] at ha; cases ha
   exact ob.list eL
  obtain⟨o1,eo1⟩:=Option.isSome_iff_exists.mp hsome
  obtain⟨xs1,sq1,_⟩:=sql Ext.refl rel1.b eo1
  refine⟨a,rfl,⟨xs1,sq1⟩,λD0 hD=>?_⟩
  obtain⟨rel2,x2⟩:=rel1.b.push (ds:=[]) (xs:=[]) hD Rps.nil
  refine⟨λk m H'=>∃r' S',Ext (r1++[D0]) r' (upd H1 D0 (.lst [])) H'∧zaR X.K r' S' H'∧W k m S',⟨m0,_,_,Ext.refl,rel2,w0⟩,?_⟩
  rintro k m H2 ⟨r2,S2,x3,rb2,w2⟩
  have ha2:r2[S1.length]?=some D0:=x3.adr _ _ (zle rel1.len)
  have q:=turn k m S2 w2
  split at q
  ·rename_i o eo
   obtain⟨xs,sq,pr⟩:=sql (x2.trans x3) rb2 eo
   split at q
   ·rename_i y ey
    obtain⟨v,hv,pv⟩:=pr.get ey
    refine .inr ⟨⟨xs,v,sq,hv⟩,λv' H' y'=>?_⟩
    obtain⟨eH,y'⟩:=y'
    subst eH
    have ev:v'=v:=by
     have z:=y' xs sq
     rw[hv] at z; exact(Option.some.inj z).symm
    subst ev
    have z:=zna (Nx:=λH'=>∃m',m'<m∧∃r' S',Ext (r1++[D0]) r' (upd H1 D0 (.lst [])) H'∧zaR X.K r' S' H'∧W (k+1) m' S') (rs.ext (x1.trans (x2.trans x3))) ha2 rb2 pv q λr' S' H' x' rb' ⟨m',hm,w'⟩=>⟨m',hm,r',S',x3.trans x',rb',w'⟩
    exact z
   ·rename_i ey
    have hlen:(zav o).length≤k:=Vay.mp ey
    exact .inl ⟨⟨xs,sq,by rw[← pr.1]; exact hlen⟩,ret _ H2 r2 _ S2 (x1.trans (x2.trans x3)) ⟨rb2,rel.xw.ext (x1.trans (x2.trans x3))⟩ (.ref ha2) q⟩
  ·exact q.elim
 | _=>exact(show False from q1).elim
theorem zo3 {ta:TDA}{tc:TDT}{te:TDE}{σ:St}{H:Hp}{Qv:VK}(h:up X.K Z (zfa caps ta tc te) σ H Qv):zgt caps (zm9 (upA X.K Z ta)) (upT X.K Z0 tc) (up X.K Z0 te) σ H Qv:=by
 obtain⟨r,dl,S,Q,rs,rel,h,ret⟩:=h
 unfold zfa at h
 refine⟨r,dl,S,_,rs,rel,h,λvs H1 r1 ds S1 x1 rel1 p1 q1=>?_⟩
 split at q1
 ·rename_i j
  obtain⟨v,vs',rfl,p2,p3⟩:=p1.uncons
  have z:=p3.unnil
  subst z
  cases p2
  obtain⟨⟨b1,b2⟩,W,w0,turn⟩:=q1
  refine⟨j,rfl,b1,b2,λD0 hD=>?_⟩
  obtain⟨rel2,x2⟩:=rel1.b.push (ds:=[]) (xs:=[]) hD Rps.nil
  refine⟨λk m H'=>m=j.toNat-k∧∃r' S',Ext (r1++[D0]) r' (upd H1 D0 (.lst [])) H'∧zaR X.K r' S' H'∧W k S',⟨j.toNat,by simp,_,_,Ext.refl,rel2,w0⟩,?_⟩
  rintro k m H2 ⟨em,r2,S2,x3,rb2,w2⟩
  have ha2:r2[S1.length]?=some D0:=x3.adr _ _ (zle rel1.len)
  have q:=turn k S2 w2
  split at q
  ·rename_i hk
   refine .inr ⟨hk,λv' H' y'=>?_⟩
   obtain⟨eH,y'⟩:=y'
   subst eH
   subst y'
   have pk:Rp r2 H' (.int (k:Int)) (.int (0+(k:Int))):=by rw[Int.zero_add]; exact .int _
   have z:=zna (Nx:=λH'=>∃m',m'<m∧m'=j.toNat-(k+1)∧∃r' S',Ext (r1++[D0]) r' (upd H1 D0 (.lst [])) H'∧zaR X.K r' S' H'∧W (k+1) S') (rs.ext (x1.trans (x2.trans x3))) ha2 rb2 pk q
    λr' S' H' x' rb' w'=>⟨j.toNat-(k+1),by omega,rfl,r',S',x3.trans x',rb',w'⟩
   exact z
  ·rename_i hk
   exact .inl ⟨by show j.toNat≤k; omega,ret _ H2 r2 _ S2 (x1.trans (x2.trans x3)) ⟨rb2,rel.xw.ext (x1.trans (x2.trans x3))⟩ (.ref ha2) q⟩
 ·exact q1.elim
theorem zkm {tl:TDE}{tc:TDT}{te:TDE}(har:X.env.scope=ar)(hc:X.calm=true)(cs:zc9 sc ar x N)(hN:caps.map (λi=>X.N[i]?)=N.map some)(hnd:(x::N).Nodup)(hl:PD X Z iter tl)
  (ht:∀cl C s0 H0 fp pn,ze2 (Cx.comp X sc (x::N) cl C s0 H0 fp pn) ifs tc)(he:∀cl C s0 H0 fp pn,PD (Cx.comp X sc (x::N) cl C s0 H0 fp pn) Z0 elt te)
  (hs:∀y,foldedSetIterable iter X.env y=pure y:=by intro _; rfl):PD X Z (.ListComp elt [⟨.Name x px,iter,ifs,0⟩] sc pos) (zbD caps tl tc te):=by
 subst har
 exact za3 (znO hc cs hN hnd (tc:=upT X.K Z0 tc) (te:=up X.K Z0 te) (zks hl) ht he hs) λ_ _ _ h=>zno h
theorem znr {t:TE}{td:TDE}{i:Nat}{F:zcH}{σ:St}{H:Hp}(imp:∀Qv,up X.K Z td σ H Qv→t σ H Qv)(h:upS X.K Z (λE dl S=>td dl S λd S1=>E.nx (dl.set i (some d)) S1) F σ H):t σ H λv H1=>F.nx (σ.set i (some v)) H1:=by
 obtain⟨r,dl,S,E,rs,rel,h,ret⟩:=h
 exact imp _ ⟨r,dl,S,_,rs,rel,h,λv H1 r1 d S1 x rel1 p q=>ret.nx _ H1 r1 _ S1 x ((rs.ext x).set i p) rel1 q⟩
theorem zn3 {tl:TDE}{tc:TDT}{te:TDE}{i:Nat}{y:Str}{py spos:Pos}(har:X.env.scope=ar)(hc:X.calm=true)(cs:zc9 sc ar x N)(hN:caps.map (λi=>X.N[i]?)=N.map some)(hnd:(x::N).Nodup)(hNd:X.N.Nodup)(hy:X.N[i]?=some y)(hlo:ar.names.lookup y=some .local)
  (hl:PD X Z iter tl)(ht:∀cl C s0 H0 fp pn,ze2 (Cx.comp X sc (x::N) cl C s0 H0 fp pn) ifs tc)(he:∀cl C s0 H0 fp pn,PD (Cx.comp X sc (x::N) cl C s0 H0 fp pn) Z0 elt te)
  (hsw:swapsWith (.ListComp elt [⟨.Name x px,iter,ifs,0⟩] sc pos) (some (.Name y py)) spos.line X.env=pure true:=by rfl)
  (hs:∀y,foldedSetIterable iter X.env y=pure y:=by intro _; rfl):PDS X Z (.Assign [.Name y py] (.ListComp elt [⟨.Name x px,iter,ifs,0⟩] sc pos) spos) (zjQ i (zbD caps tl tc te)):=by
 subst har
 exact zcp (znt hc cs hN hnd (tc:=upT X.K Z0 tc) (te:=up X.K Z0 te) (zks hl) ht he hNd hy hlo hsw hs) λF σ H h=>znr (λ_ h=>zno h) h
theorem zp9 {ta:TDA}{tc:TDT}{te:TDE}{a:Expr}{p pos2:Pos}{i:Nat}{y:Str}{py spos:Pos}(har:X.env.scope=ar)(hc:X.calm=true)(cs:zc9 sc ar x N)(hN:caps.map (λi=>X.N[i]?)=N.map some)(hnd:(x::N).Nodup)(hNd:X.N.Nodup)(hy:X.N[i]?=some y)
  (hlo:ar.names.lookup y=some .local)(hg:Gl X "range")(hm:X.mg "range"=none)(ha:PDA X Z [a] ta)
  (ht:∀cl C s0 H0 fp pn,ze2 (Cx.comp X sc (x::N) cl C s0 H0 fp pn) ifs tc)(he:∀cl C s0 H0 fp pn,PD (Cx.comp X sc (x::N) cl C s0 H0 fp pn) Z0 elt te)
  (hsw:swapsWith (.ListComp elt [⟨.Name x px,.Call (.Name "range" p) [a] [] pos2,ifs,0⟩] sc pos) (some (.Name y py)) spos.line X.env=pure true:=by rfl)
  (hs:∀y,foldedSetIterable (.Call (.Name "range" p) [a] [] pos2) X.env y=pure y:=by intro _; rfl)(hst:starEach [a] X.env=[(false,eval a X.env)]:=by rfl):
  PDS X Z (.Assign [.Name y py] (.ListComp elt [⟨.Name x px,.Call (.Name "range" p) [a] [] pos2,ifs,0⟩] sc pos) spos) (zjQ i (zfa caps ta tc te)):=by
 subst har
 exact zcp (znt hc cs hN hnd (tc:=upT X.K Z0 tc) (te:=up X.K Z0 te) (zl3 hg hm ha hst) ht he hNd hy hlo hsw hs) λF σ H h=>znr (λ_ h=>zo3 h) h
@[irreducible] def ziX (to te:TDE):TDE:=λdl S Q=>to dl S λx S1=>match x with
 | .ref n=>match S1[n]? with
  | some (.lst _)=>te dl S1 λy S2=>match S2[n]? with
   | some (.lst xs)=>if xs.length<1000 then Q .non (S2.set n (.lst (xs++[y]))) else False
   | _=>False
  | _=>False
 | _=>False
theorem zkr {o e:Expr}{to te:TDE}{apos cpos:Pos}(ho:PD X Z o to)(he:PD X Z e te)(hbase:attributeBase o "append" X.env (eval o X.env)=eval o X.env:=by rfl)
  (hfew:((backTo cpos (starEach [e] X.env)).all (λx=>!x.1)&&(backToKw cpos (keywordEach [] X.env)).all (λx=>x.1.isSome)
  &&decide (([e]:List Expr).length+([]:List Keyword).length+(if ([]:List Keyword).isEmpty then 0 else 1)<30))=true:=by rfl)
  (hline:(apos.endLine==cpos.line)=true:=by rfl)(hst:starEach [e] X.env=[(false,eval e X.env)]:=by rfl):
  PD X Z (.Call (.Attribute o "append" apos) [e] [] cpos) (ziX to te):=
 za3 (pe_bm PySem.F.plainAttrs_list PySem.F.slot_list_append PySem.F.type_list_append zl7 ho (zd0 he zgH hst) hbase hfew hline hst rfl) λσ H Qv h=>by
  obtain⟨r,dl,S,Q,rs,rel,h,ret⟩:=h
  unfold ziX at h
  refine⟨r,dl,S,_,rs,rel,h,λv H1 r1 d S1 x1 rel1 p1 h1=>?_⟩
  cases p1 with
  | @ref n a hn=>
   dsimp only at h1
   split at h1
   ·rename_i xs0 e0
    obtain⟨a',ha,ob⟩:=rel1.at e0
    rw[hn] at ha; cases ha
    obtain⟨ys,hH,_⟩:=ob
    refine⟨.inl ⟨rfl,ys,SqL.of hH⟩,r1,dl,S1,_,rs.ext x1,rel1,h1,λv2 H2 r2 d2 S2 x2 rel2 p2 h2=>?_⟩
    split at h2
    ·rename_i xs1 e1
     obtain⟨hlt,h2⟩:=zjz h2
     have ha2:=x2.adr n a hn
     obtain⟨zs,hH2,pz⟩:=rel2.b.ob n a _ ha2 e1
     obtain⟨rel3,x3⟩:=rel2.set ha2 e1 (pz.snoc p2)
     exact⟨a,zs,v2,rfl,rfl,hH2,by rw[← pz.1]; exact zkB (VaN hlt),ret .non _ r2 .non _ (x1.trans (x2.trans x3)) rel3 .non h2⟩
    ·exact h2.elim
   ·exact h1.elim
  | _=>exact(show False from h1).elim
def zjR:WC:=λds S Q=>match ds with
 | [.tup xs]=>Q (.ref S.length) (S++[.lst xs])
 | [.ref n]=>match lAt S n with
  | some o=>Q (.ref S.length) (S++[.lst (zav o)])
  | none=>False
 | _=>False
theorem zmh:za7 X (.type "list") (upC X.K Z zjR):=zkT zqo λxs H Qv ⟨r,S,ds,Q,rel,ps,q,ret⟩=>by
 unfold zjR at q
 split at q
 ·rename_i ys
  obtain⟨v,vs,rfl,p1,p2⟩:=ps.uncons
  have z:=p2.unnil
  subst z
  obtain⟨a,zs,rfl,h1,h2⟩:=p1.untup
  refine⟨a,zs,rfl,.inr (SqT.of h1),λl hl=>?_⟩
  obtain⟨rel2,x⟩:=rel.push hl h2
  exact ret _ _ _ (.ref S.length) _ x rel2 (zew rel.len) q
 ·rename_i n
  obtain⟨v,vs,rfl,p1,p2⟩:=ps.uncons
  have z:=p2.unnil
  subst z
  split at q
  ·rename_i o eo
   obtain⟨eo,eL⟩:=zcx eo
   obtain⟨a,ha,ob⟩:=rel.at eo
   cases p1 with
   | ref h1=>
    rw[h1] at ha; cases ha
    obtain⟨ys,sq,pr⟩:=ob.list eL
    refine⟨_,ys,rfl,.inl sq,λl hl=>?_⟩
    obtain⟨rel2,x⟩:=rel.push hl pr
    exact ret _ _ _ (.ref S.length) _ x rel2 (zew rel.len) q
  ·exact q.elim
 ·exact q.elim
@[irreducible] def irr (w:WC):WC:=w
@[irreducible] def zdf (w:W2):W2:=w
theorem zf9 (w:WC):irr w=w:=by unfold irr; rfl
theorem zeg (w:W2):zdf w=w:=by unfold zdf; rfl
theorem zbj {f:Value}{w:WC}(h:za7 X f (upC X.K Z w)):za7 X f (upC X.K Z (irr w)):=by rw[zf9]; exact h
theorem za1 {a b:Expr}{ta tb:TDE}(ha:PD X Z a ta)(hb:PD X Z b tb)(hs:zkV b):PD X Z (.Subscript a b pos) (dOp (zdf wIx) ta tb):=by rw[zeg]; exact zad ha hb hs
theorem zaC (S:Sto)(o:Ob):(S++[o])[S.length]?=some o:=by simp
theorem zlD {S:Sto}{o u:Ob}{n:Nat}(h:S[n]?=some o):(S++[u])[n]?=some o:=by
 rw[Var (Vad.mp h).1]; exact h
theorem zlS {tl te:TDE}{dl:Ev}{S S1:Sto}{Q:DK}{n:Nat}{o:Ob}(g:D→D)(htl:∀K:DK,K (.ref n) S1→tl dl S K)(h1:S1[n]?=some o)(hl:(zav o).length≤1000)
  (ht:∀x∈zav o,∀(S2:Sto) (K:DK),Pre S1 S2→K (g x) S2→te (some x::zcm caps dl) S2 K)(hq:Q (.ref S1.length) (S1++[.lst ((zav o).map g)]))(hL:zbC o=some o:=by rfl):zbD caps tl zdE te dl S Q:=by
 unfold zbD
 refine htl _ ⟨by rw[za8 h1 hL]; rfl,λk m S2=>S2=S1++[.lst (((zav o).take k).map g)]∧m+k=(zav o).length,⟨(zav o).length,by simp,by omega⟩,?_⟩
 rintro k m S2 ⟨rfl,hm⟩
 rw[za8 (zlD h1) hL]
 dsimp only
 split
 ·rename_i x hx
  have hk:k<(zav o).length:=(Vad.mp hx).1
  unfold zdn zdE
  simp only[if_true]
  refine ht x (Vat hx) _ _ Pre.refl.push ?_
  rw[zaC]
  refine⟨by simp; omega,m-1,by omega,?_,by omega⟩
  have e:(zav o).take (k+1)=(zav o).take k++[x]:=by rw[List.take_succ,hx]; rfl
  rw[e,List.map_append,List.set_append_right _ _ (Vaa _)]
  simp
 ·rename_i hx
  have hk:(zav o).length≤k:=Vay.mp hx
  rw[List.take_of_length_le hk]
  exact hq
theorem zsZ {o:Ob}{xs:List Int}(h:zcv (zav o)=some xs):zbC o=some o:=by
 cases o <;> first | rfl | cases h
theorem zcK {le:Int→Int→Prop}{two:Int→Int→Int}{n:Nat}{S:Sto}{o:Ob}{xs:List Int}{Q:DK}(h:S[n]?=some o)(hb:zcv (zav o)=some xs)(hne:xs≠[])(hq:∀m,m∈xs→(∀y∈xs,le y m)→Q (.int m) S):irr (zdF le two) [.ref n] S Q:=by
 rw[zf9]
 unfold zdF
 simp only[za8 h (zsZ hb),hb]
 exact⟨hne,hq⟩
theorem zfS {n:Nat}{S:Sto}{o:Ob}{Q:DK}(h:lAt S n=some o)(hq:Q (.ref S.length) (S++[.lst (zav o)])):irr zjR [.ref n] S Q:=by
 rw[zf9]
 unfold zjR
 simp only[h]
 exact hq
theorem zgA {to te:TDE}{dl:Ev}{S S1:Sto}{Q:DK}{n:Nat}{xs:List D}{y:D}(hto:∀K:DK,K (.ref n) S1→to dl S K)(h:S1[n]?=some (.lst xs))(hte:∀K:DK,K y S1→te dl S1 K)(hl:xs.length<1000)(hq:Q .non (S1.set n (.lst (xs++[y])))):ziX to te dl S Q:=by
 unfold ziX
 refine hto _ ?_
 simp only[h]
 refine hte _ ?_
 simp only[h]
 exact ifP hl hq
end
theorem zcj {n:Nat}{x y:Int}:Sco n (.tup [.int x,.int y]):=.tup λd hd=>by
 have z:d=.int x∨d=.int y:=by simpa using hd
 rcases z with rfl | rfl <;> exact .int _
open PySem PySem.Spec PyProof.Rows L2 PySem.W Builtin Builtin.ObjectAttr Builtin.Getset_descriptor
structure Nx (K:Frag)(D:Addr):Prop where
 ga:findIn K (.ref D) "__getattribute__"=some (some (.builtin "BaseException.__getattribute__"))
 hk:findIn K (.ref D) "__getattr__"=some none
 ha:findIn K (.ref D) "__class__"=some (some (.builtin "object.__class__"))
 hn:specialIn K (.builtin "object.__class__") "__get__"=some (some (.builtin "getset_descriptor.__get__"))
 ht:takesIn K (.builtin "object.__class__")=some true
 hm:mroIn K D (.type "object")=some true
 hb:mroIn K D (.type "BaseException")=some true
section
variable {X:Cx}{Z:Zx}
end
def eqN:Nat→D→D→Option Bool
 | 0=>eqF
 | k+1=>eqT (eqN k)
theorem zne:∀k,zee (eqN k)
 | 0=>zeF
 | k+1=>zm3 (zne k)
theorem zk3:∀k,zc4 k (eqN k)
 | 0=>zli 0
 | k+1=>znd (zk3 k) (zne k)
def zhs (k:Nat)(S:Sto):D→D→Option Bool
 | .ref n,.ref m=>match lAt S n,lAt S m with
  | some o,some o'=>eqL (eqN k) (zav o) (zav o')
  | _,_=>none
 | x,y=>eqN (k+1) x y
def zdy (k:Nat):W2:=λx y S Q=>match zhs k S x y with
 | some b=>Q (.bl (!b)) S
 | none=>False
section
variable {X:Cx}{Z:Zx}
end
section
variable {X:Cx}{Z:Zx}{pos:Pos}
inductive Nms (X:Cx):List Expr→List Nat→Prop
 | nil:Nms X [] []
 | cons {x:Str} {p:Pos} {i:Nat} {es:List Expr} {is:List Nat}:X.N[i]?=some x→Loc X.env.scope x→(X.fn x=true∨X.env.scope.names.lookup x=some .local)→Nms X es is→Nms X (.Name x p::es) (i::is)
end
open PySem L2
theorem zcR (S:Sto)(o u:Ob):(S++[o]).set S.length u=S++[u]:=by simp
section
variable {X:Cx}{Z:Zx}
abbrev wShl:W2:=wI zgM λi j=>.int (i*2^j.toNat)
theorem zp2:OpR X (binaryOp .LShift) (upO X.K Z wShl):=opD zrS λ_ _ _ _=>.int _
def dBits (to:TDE):TDE:=λdl S Q=>to dl S λd S1=>match d with
 | .int i=>Q (.int (Builtin.Int.intBits i)) S1
 | _=>False
theorem znQ:MtR X "int.bit_length" (λx xs H Q=>∃i,x=.int i∧xs=[]∧Q (.int (Builtin.Int.intBits i)) H):=by
 intro pins s σ H x xs v us Q I rx rv h
 obtain⟨i,rfl,rfl,q⟩:=h
 obtain⟨t,rfl⟩:=rx
 cases rv
 exact call_int_bit_length ⟨.int _,H,I.tok _,⟨_,rfl⟩,q⟩
theorem zqi {o:Expr}{to:TDE}{apos cpos:Pos}(ho:PD X Z o to)(hbase:attributeBase o "bit_length" X.env (eval o X.env)=eval o X.env:=by rfl)(hline:(apos.endLine==cpos.line)=true:=by rfl):
  PD X Z (.Call (.Attribute o "bit_length" apos) [] [] cpos) (dBits to):=
 za3 (zr5 (T:="int") ⟨⟨_,ga_int,canon_ga_int⟩,no_getattr_int⟩ slot_int_bit_length type_int_bit_length znQ ho hbase hline) λσ H Qv ⟨r,dl,S,Q,rs,rel,h,ret⟩=>⟨r,dl,S,_,rs,rel,h,λv H1 r1 d S1 e1 rel1 p1 q1=>by
  cases p1 with
  | int i=>exact⟨rfl,i,rfl,rfl,ret _ H1 r1 (.int _) S1 e1 rel1 (.int _) q1⟩
  | _=>exact(show False from q1).elim⟩
end
def zm1:Sd:=λ_ _ _ _=>False
def Df.never {P:Program}{w:World}{K:PySem.W.Frag}{mg:Str→Option Value}{base:Heap}{x:Str}{st:Stmt}{ps:List Str}(k:Nat)(d:Df K mg x st ps):Fk P w K mg base k x ps zm1:=
 ⟨d.f,d.fd,⟨λ_ _ _ _ ⟨_,_,_,_,_,_,_,z,_⟩=>z.elim,λ_ _ _ _ _ _ _ _ _ _ _ _ _ ⟨_,_,_,_,_,_,_,z,_⟩=>z.elim⟩,d.m,d.F.kp,d.b⟩
section
variable {X:Cx}{Z:Zx}{pos:Pos}
end
section
variable {X:Cx}{Z:Zx}{elt iter:Expr}{x:Str}{px pos:Pos}{ifs:List Expr}{sc ar:Scope}{N:List Str}{caps:List Nat}
end
section
variable {X:Cx}{Z:Zx}{pos:Pos}
def za0 (zs:List Str):Str:=⟨(zs.flatMap λz=>z.cps.toList).toArray⟩
abbrev TDO:=Ev→Sto→(Option Int→Sto→Prop)→Prop
def upP (K:PySem.W.Frag)(Z:Zx)(t:TDO):TO:=λσ H Q=>∃(r:List Addr) (dl:Ev) (S:Sto) (Q':Option Int→Sto→Prop),Rs r H dl σ∧Rel K Z r S H∧t dl S Q'∧∀o H' r' S',Ext r r' H H'→Rel K Z r' S' H'→Q' o S'→Q o H'
def PDO (X:Cx)(Z:Zx)(e:Option Expr)(t:TDO):Prop:=PO X e (upP X.K Z t)
def dPart (t:TDE):TDO:=λdl S Q=>t dl S λd S1=>match d with
 | .int i=>Q (some i) S1
 | _=>False
theorem POimp {e:Option Expr}{t t':TO}(h:PO X e t)(g:∀σ H Q,t' σ H Q→t σ H Q):PO X e t':=λpins s σ H Q I q=>h pins s σ H Q I (g σ H Q q)
theorem zmP {e:Expr}{t:TDE}(he:PD X Z e t):PDO X Z (some e) (dPart t):=POimp (zpj he) λσ H Q ⟨r,dl,S,Q',rs,rel,h,ret⟩=>⟨r,dl,S,_,rs,rel,h,λv H1 r1 d S1 e1 rel1 p1 q1=>by
 cases p1 with
 | int i=>exact⟨i,rfl,ret (some i) H1 r1 S1 e1 rel1 q1⟩
 | _=>exact(show False from q1).elim⟩
end
section
variable {X:Cx}{Z:Zx}
end
section
variable {X:Cx}{Z:Zx}
end
theorem zaJ {n:Nat}{S:Sto}{o:Ob}{Q:DK}{i:Int}{d:D}(ho:S[n]?=some o)(hd:atI (zav o) i=some d)(hq:Q d S)(hL:zbC o=some o:=by rfl):zdf wIx (.ref n) (.int i) S Q:=by
 rw[zeg]
 unfold wIx
 simp only[za8 ho hL,hd]
 exact hq
def zeS (f:Str)(v:D):List (Str×D)→List (Str×D)
 | []=>[(f,v)]
 | p::r=>if p.1=f then (f,v)::r else p::zeS f v r
theorem FR.lookup {r:List Addr}{H:Hp}{f:Str}:∀ {fs:List (Str×D)} {fs':List (Str×V)},FR r H fs fs'→(∀d,fs.lookup f=some d→∃v,fs'.lookup f=some v∧Rp r H d v)∧(fs.lookup f=none→fs'.lookup f=none)
 | [],fs',h=>by
  have e:fs'=[]:=by
   have:=h.1
   simpa using this.symm
  subst e
  exact⟨λd z=>by simp at z,λ_=>rfl⟩
 | p::fs,[],h=>by
  have:=h.1
  simp at this
 | p::fs,q::fs',h=>by
  obtain⟨h1,h2⟩:=h
  simp only[Vak,List.cons.injEq] at h1
  obtain⟨p1,p2⟩:=h2.tail
  obtain⟨i1,i2⟩:=FR.lookup (f:=f) (fs:=fs) (fs':=fs') ⟨h1.2,p2⟩
  obtain⟨pk,pv⟩:=p
  obtain⟨qk,qv⟩:=q
  have ek:pk=qk:=h1.1
  subst ek
  by_cases z:f=pk
  ·subst z
   simp only[List.lookup_cons_self]
   exact⟨λd hd=>⟨qv,rfl,by cases hd; exact p1⟩,λhd=>by cases hd⟩
  ·have zb:(f==pk)=false:=by simpa using z
   simp only[Vam,zb]
   exact⟨i1,i2⟩
theorem FR.put {r:List Addr}{H:Hp}{f:Str}{d:D}{v:V}(q:Rp r H d v):∀ {fs:List (Str×D)} {fs':List (Str×V)},FR r H fs fs'→FR r H (zeS f d fs) (zbb f v fs')
 | [],fs',h=>by
  have e:fs'=[]:=by
   have:=h.1
   simpa using this.symm
  subst e
  exact⟨rfl,Rps.cons q Rps.nil⟩
 | p::fs,[],h=>by
  have:=h.1
  simp at this
 | p::fs,p'::fs',h=>by
  obtain⟨h1,h2⟩:=h
  simp only[Vak,List.cons.injEq] at h1
  obtain⟨p1,p2⟩:=h2.tail
  have ih:=FR.put (f:=f) q (fs:=fs) (fs':=fs') ⟨h1.2,p2⟩
  obtain⟨pk,pv⟩:=p
  obtain⟨qk,qv⟩:=p'
  have ek:pk=qk:=h1.1
  subst ek
  unfold zeS zbb
  by_cases z:pk=f
  ·rw[if_pos z,if_pos z]
   exact⟨by simp[h1.2,z],Rps.cons q p2⟩
  ·rw[if_neg z,if_neg z]
   exact⟨by simp[ih.1],Rps.cons p1 ih.2⟩
section
variable {X:Cx}{Z:Zx}{pos:Pos}
def zct (C:Addr)(S:Sto):D→Option (Nat×List (Str×D))
 | .ref n=>match S[n]? with
  | some (.ins C' fs)=>if C'=C then some (n,fs) else none
  | _=>none
 | _=>none
theorem zly {C:Addr}{S:Sto}{d:D}{n:Nat}{fs:List (Str×D)}(h:zct C S d=some (n,fs)):d=.ref n∧S[n]?=some (.ins C fs):=by
 unfold zct at h
 split at h
 ·split at h
  ·rename_i m _ C' fs' e
   split at h
   ·rename_i ec
    subst ec
    simp only[Option.some.injEq,Prod.mk.injEq] at h
    obtain⟨rfl,rfl⟩:=h
    exact⟨rfl,e⟩
   ·cases h
  ·cases h
 ·cases h
@[irreducible] def zh0 (C:Addr)(f:Str)(to:TDE):TDE:=λdl S Q=>to dl S λd S1=>match zct C S1 d with
 | some (_,fs)=>match fs.lookup f with
  | some v=>Q v S1
  | none=>False
 | none=>False
theorem za6 {C:Addr}{f:Str}{o:Expr}{to:TDE}(c:Cls X.K C)(n:zbd X.K C f)(ho:PD X Z o to)(hb:attributeBase o f X.env (eval o X.env)=eval o X.env:=by rfl):PD X Z (.Attribute o f pos) (zh0 C f to):=
 za3 (zsF ho hb) λσ H Qv ⟨r,dl,S,Q,rs,rel,h,ret⟩=>by unfold zh0 at h; exact⟨r,dl,S,_,rs,rel,h,λv H1 r1 d S1 e1 rel1 p1 q1=>by
  split at q1
  ·rename_i m fs ei
   obtain⟨rfl,eS⟩:=zly ei
   split at q1
   ·rename_i w ew
    obtain⟨a,ha,ob⟩:=rel1.at eS
    obtain⟨dx,fs',eH,fr⟩:=ob
    cases p1 with
    | ref hr=>
     rw[hr] at ha; cases ha
     obtain⟨u,hu,pu⟩:=fr.lookup.1 w ew
     exact⟨a,C,dx,fs',u,rfl,eH,c,n,hu,ret u H1 r1 w S1 e1 rel1 pu q1⟩
   ·exact q1.elim
  ·exact q1.elim⟩
@[irreducible] def zjs (C:Addr)(f:Str)(to te:TDE):TDS:=λE dl S=>te dl S λv S1=>to dl S1 λd S2=>match zct C S2 d with
 | some (n,fs)=>fs.length<1000∧E.nx dl (S2.set n (.ins C (zeS f v fs)))
 | none=>False
theorem zb9 {C:Addr}{f:Str}{o e:Expr}{to te:TDE}{p2:Pos}(c:Cls X.K C)(n:zbd X.K C f)(ho:PD X Z o to)(he:PD X Z e te)
  (hs:swapsWith e (some (.Attribute o f p2)) pos.line X.env=pure false:=by rfl):PDS X Z (.Assign [.Attribute o f p2] e pos) (zjs C f to te):=
 zcp (zn4 ho he hs) λF σ H ⟨r,dl,S,E,rs,rel,h,ret⟩=>by unfold zjs at h; exact⟨r,dl,S,_,rs,rel,h,λv H1 r1 dv S1 e1 rel1 p1 q1=>⟨r1,dl,S1,_,rs.ext e1,rel1,q1,λw H2 r2 d S2 e2 rel2 p2' q2=>by
  split at q2
  ·rename_i m fs ei
   obtain⟨rfl,eS⟩:=zly ei
   obtain⟨hl,q2⟩:=q2
   obtain⟨a,ha,ob⟩:=rel2.at eS
   obtain⟨dx,fs',eH,fr⟩:=id ob
   cases p2' with
   | ref hr=>
    rw[hr] at ha; cases ha
    have hlen:fs'.length=fs.length:=by
     have:=congrArg List.length fr.1
     simpa using this.symm
    obtain⟨rb,x⟩:=rel2.b.setO (o':=.ins C (zeS f dv fs)) (u:=.ins C dx (zbb f v fs')) hr eS rfl rfl λx=>⟨dx,_,zc0,(fr.put (p1.ext e2)).ext x⟩
    exact⟨a,C,dx,fs',rfl,eH,c,n,by omega,ret.nx _ _ r2 _ _ (e1.trans (e2.trans x)) (rs.ext (e1.trans (e2.trans x))) ⟨rb,rel2.xw.ext x⟩ q2⟩
  ·exact q2.elim⟩⟩
@[irreducible] def zjk (C:Addr)(m:Str)(ex:Ev→Addr→Sto→Prop)(sd:Sd)(to:TDE)(t:TDA):TDE:=λdl S Q=>to dl S λd S1=>match zct C S1 d with
 | some (_,fs)=>fs.lookup m=none∧t dl S1 λds S2=>sd (d::ds) S2 Q (ex dl)
 | none=>False
theorem zoP {C:Addr}{m:Str}{f:Addr}{fd:FuncData}{k:Nat}{ps:List Str}{sp:Sp}{W:St→XK}{o e:Expr}{es:List Expr}{ta:TE}{t:TA}{apos:Pos}{pl:Sem Bool}(he:PE X o ta)(c:Cls X.K C)(hm:zeQ X.K C m f)
  (F:zaZ X.prog X.w X.K X.mg X.base (CXE X.prog X.w) k f fd ps sp)(hr:zaE k X.A)(hb:zbi X.K fd ps [])(hx:zcz X W)(ha:PA X (e::es) t)(hst:starEach (e::es) X.env=(false,eval e X.env)::starEach es X.env)(hpl:(backTo pos (starEach es X.env)).any (·.1)=false)
  (ht:eval (.Call (.Attribute o m apos) (e::es) [] pos) X.env=(do
   let ov ← eval o X.env
   standAt apos.atName
   let (f,first) ← holding [ov] (getMethod ov m pl)
   callWith pos f first (backTo pos (starEach (e::es) X.env)) (backToKw pos (keywordEach [] X.env)))):
  PE X (.Call (.Attribute o m apos) (e::es) [] pos) (λσ H Q=>ta σ H λx H1=>∃a dx fs,x=.ref a∧H1 a=some (.ins C dx fs)∧fs.lookup m=none∧t σ H1 λvs H2=>sp (x::vs) H2 Q (W σ)):=by
 intro pins s σ H Q I h
 refine PySem.W.methodCall_KW (pl:=pl) (thn (he pins s σ H _ I h) λu s1 ⟨x,H1,I1,rx,a,dx,fs,ex,ea,l,q⟩=>?_) ht
 subst ex
 obtain rfl:u=Value.ref a:=rx
 refine zmF I1 ea c hm l ?_
 exact PySem.W.callWith_K (first:=[.ref a]) (h₀:=X.base) I.ok.mod.kin hm.kp (thn (ha pos pins s1 σ H1 _ I1 q) λus s2 ⟨vs,H2,I2,r,q2⟩=>⟨I2.kIn,zk9 (us:=.ref a::us) (vs:=.ref a::vs) F hr hb hx I2 (.cons rfl r) q2⟩) hst hpl
theorem znq {C:Addr}{r:List Addr}{S:Sto}{H:Hp}{d:D}{v:V}{n:Nat}{fs:List (Str×D)}(rel:zaR X.K r S H)(p:Rp r H d v)(h:zct C S d=some (n,fs)):∃a dx fs',v=.ref a∧r[n]?=some a∧H a=some (.ins C dx fs')∧FR r H fs fs':=by
 obtain⟨rfl,eS⟩:=zly h
 obtain⟨a,ha,dx,fs',eH,fr⟩:=rel.at eS
 cases p with
 | ref hr=>
  rw[hr] at ha; cases ha
  exact⟨a,dx,fs',rfl,hr,eH,fr⟩
theorem zer {C:Addr}{m:Str}{f:Addr}{fd:FuncData}{k:Nat}{ps:List Str}{sd:Sd}{o e:Expr}{es:List Expr}{to:TDE}{t:TDA}{apos:Pos}{pl:Sem Bool}{ex:Ev→Addr→Sto→Prop}{W:St→XK}(ho:PD X ⟨ex,W⟩ o to)(c:Cls X.K C)(hm:zeQ X.K C m f)
  (F:zaZ X.prog X.w X.K X.mg X.base (CXE X.prog X.w) k f fd ps (upF X.K sd))(hr:zaE k X.A)(hb:zbi X.K fd ps [])(hx:zcz X W)(ha:PDA X ⟨ex,W⟩ (e::es) t)
  (hst:starEach (e::es) X.env=(false,eval e X.env)::starEach es X.env:=by rfl)(hpl:(backTo pos (starEach es X.env)).any (·.1)=false:=by rfl)
  (ht:eval (.Call (.Attribute o m apos) (e::es) [] pos) X.env=(do
   let ov ← eval o X.env
   standAt apos.atName
   let (f,first) ← holding [ov] (getMethod ov m pl)
   callWith pos f first (backTo pos (starEach (e::es) X.env)) (backToKw pos (keywordEach [] X.env))):=by rfl):PD X ⟨ex,W⟩ (.Call (.Attribute o m apos) (e::es) [] pos) (zjk C m ex sd to t):=
 za3 (zoP ho c hm F hr hb hx ha hst hpl ht) λσ H Qv ⟨r,dl,S,Q,rs,rel,h,ret⟩=>by unfold zjk at h; exact⟨r,dl,S,_,rs,rel,h,λv H1 r1 d S1 e1 rel1 p1 q1=>by
  split at q1
  ·rename_i n fs ei
   obtain⟨hl,q1⟩:=q1
   obtain⟨a,dx,fs',rfl,hr1,eH,fr⟩:=znq rel1.b p1 ei
   exact⟨a,dx,fs',rfl,eH,fr.lookup.2 hl,r1,dl,S1,_,rs.ext e1,rel1,q1,λvs H2 r2 ds S2 e2 rel2 p2 q2=>zk5 (Z:=⟨ex,W⟩) (rs.ext (e1.trans e2)) rel2 (Rps.cons (p1.ext e2) p2) q2 (ret.ext (e1.trans e2))⟩
  ·exact q1.elim⟩
def dMake (C:Addr)(ex:Addr→Sto→Prop)(sd:Sd)(t:TDA):TDE:=λdl S Q=>t dl S λds S1=>sd (.ref S1.length::ds) (S1++[.ins C []]) (λd S2=>d=.non∧Q (.ref S1.length) S2) ex
theorem zrH {C x dx:Addr}{r:List Addr}{S:Sto}{H:Hp}(rel:Rel X.K Z r S H)(h1:H x=none)(h2:H dx=none)(h3:dx≠x):
  Rel X.K Z (r++[x]) (S++[.ins C []]) (upd (upd H dx (.own x)) x (.ins C dx []))∧Ext r (r++[x]) H (upd (upd H dx (.own x)) x (.ins C dx [])):=by
 obtain⟨rb,e⟩:=rel.b.pushO (o:=.ins C []) (H':=upd (upd H dx (.own x)) x (.ins C dx [])) h1 (λb u q=>by rw[za4 (zdd q h1),za4 (zdd q h2)]; exact q) λ_=>⟨dx,[],zc0,FR.nil⟩
 exact⟨⟨rb,rel.xw.ext e⟩,e⟩
theorem zoX {C x:Addr}{r r':List Addr}{n:Nat}{H H':Hp}{Z:Zx}{K:PySem.W.Frag}{Q:DK}{Qv:VK}(ret:Ret K Z r H Q Qv)(e:Ext r r' H H')(hx:r'[n]?=some x):
  Ret K Z r' H' (λd S2=>d=.non∧Q (.ref n) S2) (λv H2=>v=.non∧Qv (.ref x) H2):=λv H2 r2 d S2 e2 rel2 p2 q2=>by
 obtain⟨rfl,q2⟩:=q2
 cases p2
 exact⟨rfl,ret _ H2 r2 (.ref n) S2 (e.trans e2) rel2 (.ref (e2.adr _ _ hx)) q2⟩
theorem zbU {C f:Addr}{fd:FuncData}{k:Nat}{ps:List Str}{sd:Sd}{ex:Addr→Sto→Prop}{W:XK}{x:Str}{p:Pos}{e:Expr}{es:List Expr}{t:TDA}(M:Mk X.K C f)
  (F:zaZ X.prog X.w X.K X.mg X.base (CXE X.prog X.w) k f fd ps (upF X.K sd))(hr:zaE (k+1) X.A)(hg:Gl X x)(hm:X.mg x=some (.ref C))(hb:zbi X.K fd ps [])(hx:ziW (CXE X.prog X.w) X W)(ha:PDA X (Zc ex W) (e::es) t)
  (hdb:(x==("__debug__":Str))=false:=by decide)(he:starEach (e::es) X.env=(false,eval e X.env)::starEach es X.env:=by rfl)(hpl:(backTo pos (starEach es X.env)).any (·.1)=false:=by rfl):
  PD X (Zc ex W) (.Call (.Name x p) (e::es) [] pos) (dMake C ex sd t):=
 za3 (zpG M F hr hg hm hb .nil hx ha hdb he hpl) λσ H Qv ⟨r,dl,S,Q,rs,rel,h,ret⟩=>⟨r,dl,S,_,rs,rel,h,λvs H1 r1 ds S1 e1 rel1 p1 q1=>λx dx n1 n2 n3=>by
  obtain⟨rel2,e2⟩:=zrH (C:=C) rel1 n1 n2 n3
  show upF X.K sd (.ref x::(vs++[])) _ _ W
  rw[VaJ]
  exact⟨ex,_,_,.ref S1.length::ds,_,rel2,Rps.cons (zew rel1.len) (p1.ext e2),q1,zoX (C:=C) ret (e1.trans e2) (zle rel1.len)⟩⟩
end
section
variable {κ:Type} [DecidableEq κ]
def zdl (kvs:List (κ×D))(k:κ):Option D:=(kvs.find? λkv=>decide (kv.1=k)).map (·.2)
def zmp (kvs:List (κ×D))(k:κ)(v:D):List (κ×D):=
 if (kvs.any λkv=>decide (kv.1=k))=true then kvs.map (λkv=>if kv.1=k then (kv.1,v) else kv) else kvs++[(k,v)]
theorem FR.split {r:List Addr}{H:Hp}{p:κ×D}{fs:List (κ×D)}{gs:List (κ×V)}(h:FR r H (p::fs) gs):∃q gs',gs=q::gs'∧p.1=q.1∧Rp r H p.2 q.2∧FR r H fs gs':=by
 cases gs with
 | nil=>
  have:=h.1
  simp at this
 | cons q gs'=>
  obtain⟨h1,h2⟩:=h
  simp only[Vak,List.cons.injEq] at h1
  obtain⟨p1,p2⟩:=h2.tail
  exact⟨q,gs',rfl,h1.1,p1,h1.2,p2⟩
theorem FR.unnil {r:List Addr}{H:Hp}{gs:List (κ×V)}(h:FR r H ([]:List (κ×D)) gs):gs=[]:=by
 have:=h.1
 simpa using this.symm
theorem FR.cons {r:List Addr}{H:Hp}{k:κ}{d:D}{v:V}{fs:List (κ×D)}{gs:List (κ×V)}(p:Rp r H d v)(h:FR r H fs gs):FR r H ((k,d)::fs) ((k,v)::gs):=⟨by simp[h.1],Rps.cons p h.2⟩
theorem FR.val {r:List Addr}{H:Hp}{k:κ}:∀ {fs:List (κ×D)} {gs:List (κ×V)},FR r H fs gs→(∀d,zdl fs k=some d→∃v,zbA gs k=some v∧Rp r H d v)∧(zdl fs k=none→zbA gs k=none)
 | [],gs,h=>by
  have z:=h.unnil
  subst z
  exact⟨(λd e=>by cases e),λ_=>rfl⟩
 | p::fs,gs,h=>by
  obtain⟨q,gs',rfl,e,pr,t⟩:=h.split
  obtain⟨i1,i2⟩:=FR.val (k:=k) t
  by_cases z:p.1=k
  ·have z':q.1=k:=e.symm.trans z
   rw[zg0 z']
   have zd:zdl (p::fs) k=some p.2:=by simp[zdl,VaK,z]
   rw[zd]
   exact⟨λd hd=>⟨q.2,rfl,by cases hd; exact pr⟩,λhd=>by cases hd⟩
  ·have z':¬ q.1=k:=λy=>z (e.trans y)
   rw[zkn z']
   have zd:zdl (p::fs) k=zdl fs k:=by simp[zdl,VaK,z]
   rw[zd]
   exact⟨i1,i2⟩
theorem FR.putK {r:List Addr}{H:Hp}{k:κ}{d:D}{v:V}{fs:List (κ×D)}{gs:List (κ×V)}(p:Rp r H d v)(h:FR r H fs gs):FR r H (zmp fs k d) (putK gs k v):=by
 have any:∀ {fs:List (κ×D)} {gs:List (κ×V)},FR r H fs gs→(fs.any λkv=>decide (kv.1=k))=(gs.any λkv=>decide (kv.1=k)):=by
  intro fs
  induction fs with
  | nil=>intro gs h; have z:=h.unnil; subst z; rfl
  | cons q fs ih=>
   intro gs h
   obtain⟨q',gs',rfl,e,_,t⟩:=h.split
   rw[List.any_cons,List.any_cons,ih t,e]
 have mp:∀ {fs:List (κ×D)} {gs:List (κ×V)},FR r H fs gs→FR r H (fs.map λkv=>if kv.1=k then (kv.1,d) else kv) (gs.map λkv=>if kv.1=k then (kv.1,v) else kv):=by
  intro fs
  induction fs with
  | nil=>intro gs h; have z:=h.unnil; subst z; exact FR.nil
  | cons q fs ih=>
   intro gs h
   obtain⟨q',gs',rfl,e,pr,t⟩:=h.split
   rw[Vak,Vak]
   obtain⟨qk,qd⟩:=q
   obtain⟨qk',qv⟩:=q'
   have e':qk=qk':=e
   subst e'
   by_cases z:qk=k
   ·rw[if_pos z,if_pos z]; exact FR.cons p (ih t)
   ·rw[if_neg z,if_neg z]; exact FR.cons pr (ih t)
 have ap:∀ {fs:List (κ×D)} {gs:List (κ×V)},FR r H fs gs→FR r H (fs++[(k,d)]) (gs++[(k,v)]):=by
  intro fs
  induction fs with
  | nil=>intro gs h; have z:=h.unnil; subst z; exact FR.cons p FR.nil
  | cons q fs ih=>
   intro gs h
   obtain⟨q',gs',rfl,e,pr,t⟩:=h.split
   obtain⟨qk,qd⟩:=q
   obtain⟨qk',qv⟩:=q'
   have e':qk=qk':=e
   subst e'
   exact FR.cons pr (ih t)
 unfold zmp L2.putK
 rw[any h]
 split
 ·exact mp h
 ·exact ap h
end
section
variable {X:Cx}{Z:Zx}{pos:Pos}
end
section
variable {X:Cx}{Z:Zx}{pos:Pos}
def zbg (xs:List D)(lo hi:Option Int):List D:=(xs.drop (HT.sIx xs.length 0 lo)).take (HT.sIx xs.length xs.length hi-HT.sIx xs.length 0 lo)
theorem Rps.drop {r:List Addr}{H:Hp}{ds:List D}{vs:List V}(h:Rps r H ds vs)(k:Nat):Rps r H (ds.drop k) (vs.drop k):=
 ⟨by simp[h.1],λi d v h1 h2=>h.2 (k+i) d v (by simpa using h1) (by simpa using h2)⟩
theorem Rps.take {r:List Addr}{H:Hp}{ds:List D}{vs:List V}(h:Rps r H ds vs)(k:Nat):Rps r H (ds.take k) (vs.take k):=by
 refine⟨by simp[h.1],λi d v h1 h2=>?_⟩
 rw[List.getElem?_take] at h1 h2
 split at h1
 ·rw[if_pos (by assumption)] at h2
  exact h.2 i d v h1 h2
 ·cases h1
theorem Rps.cut {r:List Addr}{H:Hp}{ds:List D}{vs:List V}(h:Rps r H ds vs)(lo hi:Option Int):Rps r H (zbg ds lo hi) (zdW vs lo hi):=by
 unfold zbg zdW
 rw[h.1]
 exact(h.drop _).take _
@[irreducible] def zhZ (te:TDE)(tl th:TDO):TDE:=λdl S Q=>te dl S λd S1=>tl dl S1 λl S2=>th dl S2 λu S3=>match d with
 | .ref n=>match lAt S3 n with
  | some o=>Q (.ref S3.length) (S3++[.lst (zbg (zav o) l u)])
  | none=>False
 | _=>False
theorem zp1 {e:Expr}{te:TDE}{lo hi:Option Expr}{tl th:TDO}{p2:Pos}(he:PD X Z e te)(hl:PDO X Z lo tl)(hu:PDO X Z hi th):PD X Z (.Subscript e (.Slice lo hi none p2) pos) (zhZ te tl th):=
 za3 (zqG zrQ he hl hu) λσ H Qv ⟨r,dl,S,Q,rs,rel,h,ret⟩=>by
  unfold zhZ at h
  refine⟨r,dl,S,_,rs,rel,h,λv H1 r1 d S1 e1 rel1 p1 q1=>⟨r1,dl,S1,_,rs.ext e1,rel1,q1,λl H2 r2 S2 e2 rel2 q2=>⟨r2,dl,S2,_,rs.ext (e1.trans e2),rel2,q2,λu H3 r3 S3 e3 rel3 q3=>?_⟩⟩⟩
  cases p1 with
  | @ref n a hn=>
   dsimp only at q3
   split at q3
   ·rename_i o eo
    obtain⟨eo,eL⟩:=zcx eo
    obtain⟨a',ha,ob⟩:=rel3.at eo
    rw[e3.adr _ _ (e2.adr _ _ hn)] at ha; cases ha
    obtain⟨xs,sq,pr⟩:=ob.list eL
    refine⟨a,xs,rfl,sq,λp hp=>?_⟩
    obtain⟨rel4,x⟩:=rel3.push hp (pr.cut l u)
    exact ret _ _ _ (.ref S3.length) _ (e1.trans (e2.trans (e3.trans x))) rel4 (zew rel3.len) q3
   ·exact q3.elim
  | _=>exact(show False from q3).elim
theorem zs0 {te:TDE}{tl th:TDO}{dl:Ev}{S S3:Sto}{Q:DK}{n:Nat}{o:Ob}{lo hi:Option Int}(h:∀K:DK,K (.ref n) S3→te dl S K)(hl:∀K:Option Int→Sto→Prop,K lo S3→tl dl S3 K)(hh:∀K:Option Int→Sto→Prop,K hi S3→th dl S3 K)(ho:S3[n]?=some o)
  (hq:Q (.ref S3.length) (S3++[.lst (zbg (zav o) lo hi)]))(hL:zbC o=some o:=by rfl):zhZ te tl th dl S Q:=by
 unfold zhZ
 refine h _ (hl _ (hh _ ?_))
 simp only[za8 ho hL]
 exact hq
end
section
variable {X:Cx}{Z:Zx}{pos:Pos}
theorem Rps.put {r:List Addr}{H:Hp}{ds:List D}{vs:List V}{d:D}{v:V}(h:Rps r H ds vs)(p:Rp r H d v)(j:Nat):Rps r H (ds.set j d) (vs.set j v):=by
 refine⟨by simp[h.1],λi x y h1 h2=>?_⟩
 by_cases z:j=i
 ·subst z
  have hl:j<ds.length:=by
   have:=(Vad.mp h1).1
   simpa using this
  rw[VaO hl] at h1
  rw[VaO (by rw[← h.1]; exact hl)] at h2
  cases h1
  cases h2
  exact p
 ·rw[VaI z] at h1 h2
  exact h.2 i x y h1 h2
@[irreducible] def zht (to ti te:TDE):TDS:=λE dl S=>te dl S λv S1=>to dl S1 λd S2=>ti dl S2 λi S3=>match d,i with
 | .ref n,.int k=>match S3[n]? with
  | some (.lst xs)=>match ixN xs.length k with
   | some j=>E.nx dl (S3.set n (.lst (xs.set j v)))
   | none=>False
  | _=>False
 | _,_=>False
theorem zlW {o i e:Expr}{to ti te:TDE}{p2:Pos}(ho:PD X Z o to)(hi:PD X Z i ti)(he:PD X Z e te)
  (hs:swapsWithSole [.Subscript o i p2] e pos.line X.env=pure false:=by rfl)(hw:swappedStores [.Subscript o i p2] e X.env=pure none:=by rfl)(h1:(assignEach [.Subscript o i p2] X.env).map (·.2)=[assign (.Subscript o i p2) X.env]:=by rfl)
  (ha:∀v,assign (.Subscript o i p2) X.env v=(do let ov ← holding [v] (eval o X.env); let iv ← holding [v,ov] (eval i X.env); standAt p2; holding [v,ov,iv] (setItem ov iv v); release [v,ov,iv] []):=by intro _; rfl):PDS X Z (.Assign [.Subscript o i p2] e pos) (zht to ti te):=
 zcp (znW he (zr7 ho hi zsR ha) hs hw h1) λF σ H ⟨r,dl,S,E,rs,rel,h,ret⟩=>by
  unfold zht at h
  refine⟨r,dl,S,_,rs,rel,h,λv H1 r1 dv S1 e1 rel1 p1 q1=>⟨r1,dl,S1,_,rs.ext e1,rel1,q1,λx H2 r2 d S2 e2 rel2 pd q2=>⟨r2,dl,S2,_,rs.ext (e1.trans e2),rel2,q2,λy H3 r3 di S3 e3 rel3 pi q3=>?_⟩⟩⟩
  cases pd with
  | @ref n a hn=>
   cases pi with
   | int k=>
    dsimp only at q3
    split at q3
    ·rename_i xs eS
     split at q3
     ·rename_i j ej
      have hn3:=e3.adr _ _ hn
      obtain⟨ys,eH,pr⟩:=rel3.b.ob n a _ hn3 eS
      obtain⟨rel4,x4⟩:=rel3.set hn3 eS (pr.put (p1.ext (e2.trans e3)) j)
      exact⟨a,ys,k,j,rfl,rfl,eH,by rw[← pr.1]; exact ej,ret.nx _ _ r3 _ _ (e1.trans (e2.trans (e3.trans x4))) (rs.ext (e1.trans (e2.trans (e3.trans x4)))) rel4 q3⟩
     ·exact q3.elim
    ·exact q3.elim
   | _=>exact(show False from q3).elim
  | _=>exact(show False from q3).elim
end
section
variable {X:Cx}{pins:List (Addr×Obj)}{σ:St}{H:Hp}{s:Shared}{h':Heap}
end
section
variable {X:Cx}
end
section
variable {X:Cx}
end
section
variable {X:Cx}{Z:Zx}{pos:Pos}
end
section
variable {X:Cx}{Z:Zx}{pos:Pos}
@[irreducible] def ziw (T:String)(te:TDE):TDE:=λdl S Q=>te dl S λd S1=>match d with
 | .ref n=>match S1[n]? with
  | some (.lst _)=>Q (.bl (zcJ "list" T)) S1
  | _=>False
 | _=>False
theorem zoN {T:String}{e:Expr}{te:TDE}{y:Str}{p p2:Pos}(KT:PySem.W.kitOne X.K (.type "list") (.type T)=some (zcJ "list" T))(hg:Gl X "isinstance")(hm:X.mg "isinstance"=none)(hg2:Gl X y)(hm2:X.mg y=none)(hv2:bootBuiltins y=some (.type T))(ha:PD X Z e te)
  (hv:bootBuiltins "isinstance"=some (.builtin "isinstance"):=by exact PyProof.Rows.Boot.«isinstance»)
  (hn2:y≠"__name__":=by decide)(hd2:(y==("__debug__":Str))=false:=by decide)(he2:starEach [e,.Name y p2] X.env=(false,eval e X.env)::starEach [.Name y p2] X.env:=by rfl)
  (he3:starEach [.Name y p2] X.env=(false,eval (.Name y p2) X.env)::starEach [] X.env:=by rfl)(hpl:(backTo pos (starEach [.Name y p2] X.env)).any (·.1)=false:=by rfl):
  PD X Z (.Call (.Name "isinstance" p) [e,.Name y p2] [] pos) (ziw T te):=
 za3 (zlN zmq hg hm hv (zd0 ha (zd0 (znx (v:=.ty T) hg2 hm2 hv2 rfl hn2 hd2) zgH he3) he2) (by decide) (by decide) he2 hpl) λσ H Qv ⟨r,dl,S,Q,rs,rel,h,ret⟩=>
  by unfold ziw at h; exact⟨r,dl,S,_,rs,rel,h,λv H1 r1 d S1 e1 rel1 p1 h1=>by
   cases p1 with
   | @ref n a hr=>
    dsimp only at h1
    split at h1
    ·rename_i xs eS
     obtain⟨ys,eH,_⟩:=rel1.b.ob n a _ hr eS
     exact⟨_,T,_,_,rfl,.lst eH,KT,ret _ _ _ _ _ e1 rel1 (.bl _) h1⟩
    ·exact h1.elim
   | _=>exact(show False from h1).elim⟩
end
theorem zq7 (K:PySem.W.Frag):PySem.W.kitOne K (.type "list") (.type "list")=some (zcJ "list" "list"):=by kernel_rfl
structure Dm (K:PySem.W.Frag)(C:Addr)(m qual:Str)(st:Stmt)(ps:List Str) where
 f:Addr
 fd:FuncData
 F:Fun K m qual st f fd
 m:zeQ K C m f
 b:zbi K fd ps []
structure Fm (P:Program)(w:World)(K:PySem.W.Frag)(mg:Str→Option Value)(base:Heap)(k:Nat)(C:Addr)(x:Str)(ps:List Str)(sd:Sd) where
 f:Addr
 fd:FuncData
 ok:zaZ P w K mg base (CXE P w) k f fd ps (upF K sd)
 m:zeQ K C x f
 b:zbi K fd ps []
def Dm.mk' {P:Program}{w:World}{K:PySem.W.Frag}{mg:Str→Option Value}{base:Heap}{k:Nat}{C:Addr}{x qual:Str}{st:Stmt}{ps:List Str}{sd:Sd}(d:Dm K C x qual st ps)(h:zaZ P w K mg base (CXE P w) k d.f d.fd ps (upF K sd)):Fm P w K mg base k C x ps sd:=
 ⟨d.f,d.fd,h,d.m,d.b⟩
theorem zbQ {P:Program}{w:World}{X:Cx}:ziW (CXE P w) X (λ_ _ _=>False):=λ_ _ _ _ _ _ _ h=>by
 obtain⟨_,_,_,_,_,_,_,_,_,_,_,_,q⟩:=h
 exact q.elim
section
variable {X:Cx}{Z:Zx}
end
section
variable {X:Cx}{Z:Zx}{pos:Pos}
theorem zq4 {k n m:Nat}{a a':Addr}{o o':Ob}{b:Bool}{pins:List (Addr×Obj)}{σ:St}{H:Hp}{s:Shared}{r:List Addr}{S:Sto}(I:Inv X pins σ H s)(rel:Rel X.K Z r S H)(hn:r[n]?=some a)(hm:r[m]?=some a')(eo:lAt S n=some o)(eo':lAt S m=some o')
  (e:eqL (eqN k) (zav o) (zav o')=some b)(hu:X.A.units+1+k<cLine):SeqAt.RcNeAt X.A s (.ref a) (.ref a') (!b):=by
 obtain⟨eo,eL⟩:=zcx eo
 obtain⟨eo',eL'⟩:=zcx eo'
 obtain⟨z,hz,ob⟩:=rel.at eo
 rw[hn] at hz; cases hz
 obtain⟨z,hz,ob'⟩:=rel.at eo'
 rw[hm] at hz; cases hz
 obtain⟨xs,sq,pr⟩:=ob.list eL
 obtain⟨ys,sq',pr'⟩:=ob'.list eL'
 obtain⟨is,ri,pl,_⟩:=I.list sq
 obtain⟨js,rj,pl',_⟩:=I.list sq'
 obtain⟨g1,g2⟩:=zgB (A:=X.A.in1) (zk3 k) I (by show X.A.units+1+k<_; omega) pr pr' ri rj e
 by_cases hs:is.toArray.size=js.toArray.size
 ·have q:=SeqAt.RcNeAt.lists (A:=X.A) pl.isList pl'.isList hs (by omega) g1
  have e2:(List.range is.toArray.size).all (zcd (eqN k) (zav o) (zav o'))=b:=by
   rw[← g2,← hs,Nat.min_self]; simp
  rw[e2] at q
  exact q
 ·have q:=SeqAt.RcNeAt.lists_lengths (A:=X.A) pl.isList pl'.isList (by simpa using hs) (by omega)
  have e2:b=false:=by
   rw[← g2,show (is.toArray.size==js.toArray.size)=false by simpa using hs,Bool.and_false]
  rw[e2]
  exact q
theorem zp4 (k:Nat){j:Nat}(hr:zaE j X.A)(hu:X.A.units+1+k<cLine):OpR X (compareOp .NotEq) (upO X.K Z (zdy k)):=by
 intro pins s σ H x y v u Qv I rx ry h
 obtain⟨r,S,dx,dy,Q,rel,px,py,q,ret⟩:=h
 have za0:∀ {dx dy:D} {x y:V},Rp r H dx x→Rp r H dy y→zax x v→zax y u→zhs k S dx dy=eqN (k+1) dx dy→zdy k dx dy S Q→wpAny (model X.prog X.w) X.A (compareOp .NotEq v u) (EP X pins σ Qv) X.xe s:=λpx py rx ry e q=>by
  refine zmM (Z:=Z) (zk3 k) hu pins s σ H _ _ v u Qv I rx ry ⟨r,S,_,_,Q,rel,px,py,?_,ret⟩
  unfold zdy at q
  rw[e] at q
  exact q
 cases px with
 | @ref n a hn=>
  cases py with
  | @ref m a' hm=>
   cases rx
   cases ry
   unfold zdy zhs at q
   dsimp only at q
   split at q
   ·rename_i b e
    split at e
    ·rename_i o o' eo eo'
     exact zq4 I rel hn hm eo eo' e hu X.prog X.w X.xe _ ⟨.bl (!b),H,I,rfl,ret _ _ _ _ _ Ext.refl rel (.bl (!b)) q⟩
    ·cases e
   ·exact q.elim
  | non=>exact za0 (.ref hn) .non rx ry rfl q
  | bl i=>exact za0 (.ref hn) (.bl i) rx ry rfl q
  | int i=>exact za0 (.ref hn) (.int i) rx ry rfl q
  | str i=>exact za0 (.ref hn) (.str i) rx ry rfl q
  | tup a b c=>exact za0 (.ref hn) (.tup a b c) rx ry rfl q
  | exc a=>exact za0 (.ref hn) (.exc a) rx ry rfl q
 | non=>exact za0 .non py rx ry rfl q
 | bl i=>exact za0 (.bl i) py rx ry rfl q
 | int i=>exact za0 (.int i) py rx ry rfl q
 | str i=>exact za0 (.str i) py rx ry rfl q
 | tup a b c=>exact za0 (.tup a b c) py rx ry rfl q
 | exc a=>exact za0 (.exc a) py rx ry rfl q
theorem zsH {k:Nat}(hr:zaE k X.A):OpR X (compareOp .NotEq) (upO X.K Z (zdf (zdy 1))):=by rw[zeg]; exact zp4 1 hr (by have:=hr.un; omega)
theorem zmX {k n m:Nat}{S:Sto}{Q:DK}{o o':Ob}{b:Bool}(h1:lAt S n=some o)(h2:lAt S m=some o')(e:eqL (eqN k) (zav o) (zav o')=some b)(hq:Q (.bl (!b)) S):zdf (zdy k) (.ref n) (.ref m) S Q:=by
 rw[zeg]
 unfold zdy
 simp only[zhs,h1,h2,e]
 exact hq
def zjG:W2:=λx y S Q=>match x,y with
 | .ref n,.ref m=>match S[n]?,S[m]? with
  | some (.lst xs),some (.lst ys)=>xs.length+ys.length≤1000∧Q (.ref S.length) (S++[.lst (xs++ys)])
  | _,_=>False
 | _,_=>False
theorem Rps.app {r:List Addr}{H:Hp}:∀ {ds es:List D} {xs ys:List V},Rps r H ds xs→Rps r H es ys→Rps r H (ds++es) (xs++ys)
 | [],es,xs,ys,p,q=>by
  have z:=p.unnil
  subst z
  exact q
 | d::ds,es,xs,ys,p,q=>by
  obtain⟨v,vs,rfl,p1,p2⟩:=p.uncons
  exact Rps.cons p1 (p2.app q)
theorem zqF:OpR X (binaryOp .Add) (upO X.K Z (zdf zjG)):=by
 rw[zeg]
 exact zeb zsp λx y H Qv ⟨r,S,dx,dy,Q,rel,px,py,q,ret⟩=>by
  unfold zjG at q
  split at q
  ·rename_i n m
   split at q
   ·rename_i xs ys e1 e2
    obtain⟨hl,q⟩:=q
    cases px with
    | @ref _ a hn=>
     cases py with
     | @ref _ a' hm=>
      obtain⟨z,hz,ob⟩:=rel.at e1
      rw[hn] at hz; cases hz
      obtain⟨z,hz,ob'⟩:=rel.at e2
      rw[hm] at hz; cases hz
      obtain⟨us,h1,p1⟩:=ob
      obtain⟨vs,h2,p2⟩:=ob'
      refine⟨a,a',us,vs,rfl,rfl,h1,h2,?_,λp hp=>?_⟩
      ·rw[← p1.1,← p2.1]; exact zkE hl
      ·obtain⟨rel4,x⟩:=rel.push hp (p1.app p2)
       exact ret _ _ _ (.ref S.length) _ x rel4 (zew rel.len) q
   ·exact q.elim
  ·exact q.elim
theorem zph {n m:Nat}{S:Sto}{Q:DK}{xs ys:List D}(h1:S[n]?=some (.lst xs))(h2:S[m]?=some (.lst ys))(hl:xs.length+ys.length≤1000)(hq:Q (.ref S.length) (S++[.lst (xs++ys)])):zdf zjG (.ref n) (.ref m) S Q:=by
 rw[zeg]
 unfold zjG
 simp only[h1,h2]
 exact⟨hl,hq⟩
def MT (X:Cx)(m:Str)(tbl:List (Addr×Sd)):Prop:=∀C sd,(C,sd)∈tbl→Cls X.K C∧∃(f:Addr) (fd:FuncData) (k:Nat) (ps:List Str),zeQ X.K C m f∧zaZ X.prog X.w X.K X.mg X.base (CXE X.prog X.w) k f fd ps (upF X.K sd)∧zaE k X.A∧zbi X.K fd ps []
theorem zqI {m:Str}:MT X m []:=λ_ _ h=>by cases h
theorem zeN {C:Addr}{m:Str}{k:Nat}{ps:List Str}{sd:Sd}{tbl:List (Addr×Sd)}(c:Cls X.K C)(G:Fm X.prog X.w X.K X.mg X.base k C m ps sd)(hr:zaE k X.A)(h:MT X m tbl):MT X m ((C,sd)::tbl):=λC' sd' hm=>by
 rcases Vae.mp hm with e | e
 ·cases e
  exact⟨c,G.f,G.fd,k,ps,G.m,G.ok,hr,G.b⟩
 ·exact h C' sd' e
theorem zpL {m:Str}{W:St→XK}{o e:Expr}{es:List Expr}{ta:TE}{t:TA}{apos:Pos}{pl:Sem Bool}{tbl:List (Addr×Sd)}(he:PE X o ta)(M:MT X m tbl)(hx:zcz X W)(ha:PA X (e::es) t)(hst:starEach (e::es) X.env=(false,eval e X.env)::starEach es X.env)(hpl:(backTo pos (starEach es X.env)).any (·.1)=false)
  (ht:eval (.Call (.Attribute o m apos) (e::es) [] pos) X.env=(do
   let ov ← eval o X.env
   standAt apos.atName
   let (f,first) ← holding [ov] (getMethod ov m pl)
   callWith pos f first (backTo pos (starEach (e::es) X.env)) (backToKw pos (keywordEach [] X.env)))):
  PE X (.Call (.Attribute o m apos) (e::es) [] pos) (λσ H Q=>ta σ H λx H1=>∃a C dx fs sd,x=.ref a∧H1 a=some (.ins C dx fs)∧(C,sd)∈tbl∧fs.lookup m=none∧t σ H1 λvs H2=>upF X.K sd (x::vs) H2 Q (W σ)):=by
 intro pins s σ H Q I h
 refine PySem.W.methodCall_KW (pl:=pl) (thn (he pins s σ H _ I h) λu s1 ⟨x,H1,I1,rx,a,C,dx,fs,sd,ex,ea,hm',l,q⟩=>?_) ht
 subst ex
 obtain rfl:u=Value.ref a:=rx
 obtain⟨c,f,fd,k,ps,hm,F,hr,hb⟩:=M C sd hm'
 refine zmF I1 ea c hm l ?_
 exact PySem.W.callWith_K (first:=[.ref a]) (h₀:=X.base) I.ok.mod.kin hm.kp (thn (ha pos pins s1 σ H1 _ I1 q) λus s2 ⟨vs,H2,I2,r,q2⟩=>⟨I2.kIn,zk9 (us:=.ref a::us) (vs:=.ref a::vs) F hr hb hx I2 (.cons rfl r) q2⟩) hst hpl
@[irreducible] def zhH (tbl:List (Addr×Sd))(m:Str)(ex:Ev→Addr→Sto→Prop)(to:TDE)(t:TDA):TDE:=λdl S Q=>to dl S λd S1=>∃n C fs sd,d=.ref n∧S1[n]?=some (.ins C fs)∧(C,sd)∈tbl∧fs.lookup m=none∧t dl S1 λds S2=>sd (d::ds) S2 Q (ex dl)
theorem zqS {m:Str}{o e:Expr}{es:List Expr}{to:TDE}{t:TDA}{apos:Pos}{pl:Sem Bool}{ex:Ev→Addr→Sto→Prop}{W:St→XK}{tbl:List (Addr×Sd)}(ho:PD X ⟨ex,W⟩ o to)(M:MT X m tbl)(hx:zcz X W)(ha:PDA X ⟨ex,W⟩ (e::es) t)
  (hst:starEach (e::es) X.env=(false,eval e X.env)::starEach es X.env:=by rfl)(hpl:(backTo pos (starEach es X.env)).any (·.1)=false:=by rfl)
  (ht:eval (.Call (.Attribute o m apos) (e::es) [] pos) X.env=(do
   let ov ← eval o X.env
   standAt apos.atName
   let (f,first) ← holding [ov] (getMethod ov m pl)
   callWith pos f first (backTo pos (starEach (e::es) X.env)) (backToKw pos (keywordEach [] X.env))):=by rfl):PD X ⟨ex,W⟩ (.Call (.Attribute o m apos) (e::es) [] pos) (zhH tbl m ex to t):=
 za3 (zpL ho M hx ha hst hpl ht) λσ H Qv ⟨r,dl,S,Q,rs,rel,h,ret⟩=>by
  unfold zhH at h
  refine⟨r,dl,S,_,rs,rel,h,λv H1 r1 d S1 e1 rel1 p1 q1=>?_⟩
  obtain⟨n,C,fs,sd,rfl,eS,hm,hl,q1⟩:=q1
  obtain⟨a,dx,fs',rfl,hr1,eH,fr⟩:=znq (C:=C) (n:=n) (fs:=fs) rel1.b p1 (by simp only[zct,eS,if_pos])
  exact⟨a,C,dx,fs',sd,rfl,eH,hm,fr.lookup.2 hl,r1,dl,S1,_,rs.ext e1,rel1,q1,λvs H2 r2 ds S2 e2 rel2 p2 q2=>zk5 (Z:=⟨ex,W⟩) (rs.ext (e1.trans e2)) rel2 (Rps.cons (p1.ext e2) p2) q2 (ret.ext (e1.trans e2))⟩
theorem zqn {tbl:List (Addr×Sd)}{C:Addr}{m:Str}{ex:Ev→Addr→Sto→Prop}{sd:Sd}{to:TDE}{t:TDA}{dl:Ev}{S S1:Sto}{Q:DK}{n:Nat}{fs:List (Str×D)}(hto:∀K:DK,K (.ref n) S1→to dl S K)(h:S1[n]?=some (.ins C fs))(hm:(C,sd)∈tbl)(hf:fs.lookup m=none)(hq:t dl S1 λds S2=>sd (.ref n::ds) S2 Q (ex dl)):zhH tbl m ex to t dl S Q:=by
 unfold zhH
 exact hto _ ⟨n,C,fs,sd,rfl,h,hm,hf,hq⟩
structure Kx (K:PySem.W.Frag)(C:Addr):Prop where
 cl:Cls K C
 ha:PySem.W.findIn K (.ref C) "__class__"=some (some (.builtin "object.__class__"))
 hn:PySem.W.specialIn K (.builtin "object.__class__") "__get__"=some (some (.builtin "getset_descriptor.__get__"))
 ht:PySem.W.takesIn K (.builtin "object.__class__")=some true
 hm:PySem.W.mroIn K C (.type "object")=some true
def KT (K:PySem.W.Frag)(cv:Value)(ans:List (Addr×Bool)):Prop:=∀C b,(C,b)∈ans→PySem.W.kitOne K (.ref C) cv=some b∧Kx K C
end
section
variable {X:Cx}{Z:Zx}
end
section
variable {n:Nat}{I:Addr}{fp wr:List Addr}{P:Nat→Value→Prop}{St:Nat→Shared→Prop}{prog:Program}{w:World}{A:Around}{s:Shared}{E:Value→Shared→Prop}{G:Array GenState→Array GenState→Prop}
end
section
variable {X:Cx}{Z:Zx}
end
structure CompScG (sc around:Scope)(own caps:List Str):Prop where
 kind:sc.kind=.function
 nocell:∀y∈sc.names,y.2≠.cell
 own:∀y∈sc.names,y.2=.local→sc.names.lookup y.1=some .local
 cap:∀y∈caps,sc.names.lookup y=some .free
 out:∀y∈sc.names,y.2=.free→around.names.lookup y.1=some .cell
section
variable {X:Cx}{pins:List (Addr×Obj)}{σ:St}{H:Hp}{s:Shared}
end
section
variable {X:Cx}{elt iter:Expr}{elts:List Expr}{kk:Nat}{tp:Pos}{pos:Pos}{sc:Scope}{own N:List Str}{caps:List Nat}{wi:TI}{gt:TG}{te:TE}
end
section
variable {X:Cx}{Z:Zx}{elt:Expr}{pos:Pos}{sc ar:Scope}{N:List Str}{caps:List Nat}
end
section
variable {X:Cx}{Z:Zx}{pos:Pos}
end
section
variable {X:Cx}{Z:Zx}
end
section
variable {X:Cx}{Z:Zx}{pos:Pos}
theorem zjX:∀ {us:List Value} {ms:List Int},IntsAre us ms→zaw (ms.map V.int) us
 | _,_,.nil=>.nil
 | _,_,.cons n t h=>.cons ⟨t,rfl⟩ (zjX h)
end
section
variable {X:Cx}{Z:Zx}{elt:Expr}{pos:Pos}{sc ar:Scope}{N:List Str}{caps:List Nat}
end
section
variable {X:Cx}{Z:Zx}{pos:Pos}
end
section
variable {n:Nat}{I:Addr}{fp wr:List Addr}{P:Nat→Value→Prop}{St:Nat→Shared→Prop}{prog:Program}{w:World}{A:Around}{s:Shared}{E:Value→Shared→Prop}{G:Array GenState→Array GenState→Prop}
end
section
variable {X:Cx}{Z:Zx}{pos:Pos}
end
section
variable {X:Cx}{Z:Zx}{pos:Pos}
theorem Rps.ins {r:List Addr}{H:Hp}{y:D}{w:V}(hy:Rp r H y w):∀ {ds:List D} {xs:List V} (k:Nat),Rps r H ds xs→Rps r H (ds.take k++y::ds.drop k) (xs.take k++w::xs.drop k)
 | [],xs,k,h=>by
  have z:=h.unnil
  subst z
  simpa using Rps.cons hy h
 | d::ds,xs,0,h=>Rps.cons hy h
 | d::ds,xs,k+1,h=>by
  obtain⟨v,vs,rfl,p1,p2⟩:=h.uncons
  exact Rps.cons p1 (Rps.ins hy k p2)
end
section
variable {X:Cx}{Z:Zx}{elt iter:Expr}{elts:List Expr}{kk:Nat}{tp pos:Pos}{sc ar:Scope}{own N:List Str}{caps:List Nat}{wi:TI}{gt:TG}
end
section
variable {X:Cx}{Z:Zx}
end
section
variable {X:Cx}{Z:Zx}{pos:Pos}
end
end L3
namespace L2
open PySem PySem.Spec PyProof.Rows
section
variable {X:Cx}{tg:Expr}
end
end L2
namespace L3
open PySem PySem.Spec PyProof.Rows L2
section
variable {X:Cx}{Z:Zx}{pos:Pos}
end
end L3
set_option Elab.async false
set_option linter.all false
set_option maxRecDepth 100000
set_option maxHeartbeats 40000000
namespace Mine
open PySem PySem.Spec PyProof.Rows L2 L3
theorem fsc {N P:List Str}{sc:Scope}(a:sc.kind=.function:=by rfl)(b:sc.isCoroutine=false:=by rfl)(c:sc.isGenerator=false:=by rfl)(d:N.Nodup:=by decide +kernel)(e:N.take P.length=P:=by rfl)(f:∀x∈P,sc.names.lookup x=some .local∨sc.names.lookup x=some .cell:=by decide +kernel)(g:∀y∈sc.names,y.2≠.free:=by decide +kernel):zaz N P sc:=⟨a,b,c,d,e,f,g⟩
theorem csc {sc ar:Scope}{x:Str}{caps:List Str}(a:sc.kind=.function:=by rfl)(b:∀y∈sc.names,y.2≠.cell:=by decide +kernel)(c:∀y∈sc.names,y.2=.local→sc.names.lookup y.1=some .local:=by decide +kernel)(d:sc.names.lookup x=some .local:=by rfl)(e:∀y∈caps,sc.names.lookup y=some .free:=by decide +kernel)(f:∀y∈sc.names,y.2=.free→ar.names.lookup y.1=some .cell:=by decide +kernel):zc9 sc ar x caps:=⟨a,b,c,d,e,f⟩
abbrev Ln (sp:Sd)(n:Nat):Prop:=∀ds S Q ex,sp ds S Q ex→ds.length=n
theorem zaq {X:Cx}{x:Str}{p pos:Pos}{e:Expr}{es:List Expr}{t:TDA}{k j:Nat}{ps:List Str}{sd:Sd}{ex:Ev→Addr→Sto→Prop}(G:Fk X.prog X.w X.K X.mg X.base k x ps sd)(hr:zaE j X.A)(ha:PDA X ⟨ex,Z0.w⟩ (e::es) t)(hk:k≤j:=by decide)(hg:Gl X x:=by rfl)
  (hdb:(x==("__debug__":Str))=false:=by decide)(he:starEach (e::es) X.env=(false,eval e X.env)::starEach es X.env:=by rfl)(hpl:(backTo pos (starEach es X.env)).any (·.1)=false:=by rfl):PD X ⟨ex,Z0.w⟩ (.Call (.Name x p) (e::es) [] pos) (ziZ ex sd t):=zlz G (hr.mono hk) zcw hg ha hdb he hpl
abbrev ziI:Stmt:=top 37
abbrev zfs:List Str:=["_law_cell_here"]
theorem zmv:zaz ["_law_cell_here","_law_c"] zfs (zat ziI):=fsc
abbrev ziS:Stmt:=top 32
abbrev zfp:List Str:=["_law_script","_law_k"]
theorem zs2:zaz ["_law_script","_law_k"] zfp (zat ziS):=fsc
abbrev zhq:Stmt:=top 38
abbrev zdR:List Str:=["_law_cell_here"]
theorem zc5:zaz ["_law_cell_here","_law_c","_law_way","_law_low","_law_wide"] zdR (zat zhq):=fsc
abbrev zgD:Stmt:=top 39
abbrev zdb:List Str:=["_law_a","_law_many"]
theorem zj6:zaz ["_law_a","_law_many","_law_found","_law_turn"] zdb (zat zgD):=fsc
abbrev ziH:Stmt:=top 42
abbrev zfd:List Str:=["_law_node_here","_law_spans","_law_box","_law_grid_here"]
theorem zc2:zaz ["_law_node_here","_law_spans","_law_box","_law_grid_here","_law_a","_law_share","_law_ends","_law_low","_law_b"] zfd (zat ziH):=fsc
abbrev zh9:Stmt:=top 53
abbrev zfr:List Str:=["_law_node_here","_law_spans","_law_box","_law_grid_here","_law_cell_here"]
theorem zcQ:zaz ["_law_node_here","_law_spans","_law_box","_law_grid_here","_law_cell_here","_law_c","_law_some","_law_x","_law_u","_law_y","_law_v","_law_near"] zfr (zat zh9):=fsc
abbrev zdK:Stmt:=top 46
abbrev zeD:List Str:=["_law_spans"]
theorem znm:zaz ["_law_spans","_law_kept_here"] zeD (zat zdK):=fsc
abbrev zhy:Stmt:=top 45
abbrev zfw:List Str:=["_law_x","_law_piece"]
theorem ze8:zaz ["_law_x","_law_piece","_law_low","_law_high"] zfw (zat zhy):=fsc
abbrev zkh:Stmt:=top 44
abbrev zeX:List Str:=["_law_low","_law_high","_law_y"]
theorem zbL:zaz ["_law_low","_law_high","_law_y","_law_ends","_law_top","_law_bottom","_law_least","_law_most","_law_end","_law_pieces_here","_law_edge"] zeX (zat zkh):=fsc
abbrev zfy:Stmt:=top 47
abbrev zfh:List Str:=["_law_z","_law_x","_law_y","_law_grid_here"]
theorem zoB:zaz ["_law_z","_law_x","_law_y","_law_grid_here"] zfh (zat zfy):=fsc
abbrev zjJ:Stmt:=top 48
abbrev zfA:List Str:=["_law_bound","_law_many","_law_most"]
theorem zdU:zaz ["_law_bound","_law_many","_law_most","_law_low","_law_high","_law_place"] zfA (zat zjJ):=fsc
abbrev zj5:Stmt:=top 49
abbrev zgb:List Str:=["_law_bound","_law_many","_law_most"]
theorem zlI:zaz ["_law_bound","_law_many","_law_most","_law_low"] zgb (zat zj5):=fsc
abbrev zhw:Stmt:=top 50
abbrev zfJ:List Str:=["_law_x","_law_low","_law_high","_law_many"]
theorem znu:zaz ["_law_x","_law_low","_law_high","_law_many","_law_most"] zfJ (zat zhw):=fsc
abbrev zg7:Stmt:=top 51
abbrev zgj:List Str:=["_law_z","_law_x","_law_many","_law_grid_here"]
theorem zdt:zaz ["_law_z","_law_x","_law_many","_law_grid_here","_law_share","_law_low","_law_high","_law_right","_law_left"] zgj (zat zg7):=fsc
abbrev zkf:Stmt:=top 52
abbrev zfW:List Str:=["_law_node_here","_law_spans","_law_z","_law_grid_here"]
theorem zeO:zaz ["_law_node_here","_law_spans","_law_z","_law_grid_here","_law_x","_law_y"] zfW (zat zkf):=fsc
abbrev zi2:Stmt:=zaP (top 25) 0
abbrev zdP:List Str:=["self","one","other"]
theorem zsU:zaz ["self","one","other"] zdP (zat zi2):=fsc
abbrev zi0:Stmt:=zaP (top 29) 0
abbrev zet:List Str:=["self","one","many"]
theorem zrB:zaz ["self","one","many"] zet (zat zi0):=fsc
abbrev zjB:Stmt:=zaP (top 23) 0
abbrev zej:List Str:=["self","top","bottom"]
theorem zoV:zaz ["self","top","bottom"] zej (zat zjB):=fsc
abbrev zkc:Stmt:=zaP (top 24) 0
abbrev zdV:List Str:=["self","place"]
theorem zrj:zaz ["self","place"] zdV (zat zkc):=fsc
abbrev zjt:Stmt:=zaP (top 25) 0
abbrev zdZ:List Str:=["self","one","other"]
theorem zqD:zaz ["self","one","other"] zdZ (zat zjt):=fsc
abbrev ziN:Stmt:=zaP (top 25) 0
abbrev zeI:List Str:=["self","one","other"]
theorem znE:zaz ["self","one","other"] zeI (zat ziN):=fsc
abbrev zhz:Stmt:=top 30
abbrev zfG:List Str:=["node"]
theorem zrT:zaz ["node"] zfG (zat zhz):=fsc
abbrev zj9:Stmt:=top 43
abbrev zgk:List Str:=["_law_node_here","_law_straight"]
theorem znD:zaz ["_law_node_here","_law_straight"] zgk (zat zj9):=fsc
abbrev zgx:Stmt:=top 33
abbrev zeH:List Str:=["_law_found"]
theorem zsc:zaz ["_law_found"] zeH (zat zgx):=fsc
abbrev ziK:Stmt:=top 34
abbrev zfQ:List Str:=["_law_found"]
theorem zs1:zaz ["_law_found"] zfQ (zat ziK):=fsc
abbrev zi6:Stmt:=top 54
abbrev zeY:List Str:=["_law_found","_law_due"]
theorem zkH:zaz ["_law_found","_law_due","_law_k","_law_part"] zeY (zat zi6):=fsc
abbrev zgN:Stmt:=zaP (top 23) 3
abbrev zgu:List Str:=["self","spans","here","grid"]
theorem zpK:zaz ["self","spans","here","grid"] zgu (zat zgN):=fsc
abbrev zjY:Stmt:=zaP (top 24) 3
abbrev zfF:List Str:=["self","spans","here","grid"]
theorem zrG:zaz ["self","spans","here","grid"] zfF (zat zjY):=fsc
abbrev zg5:Stmt:=top 7
abbrev zcW:List Str:=["a","b"]
theorem zkw:zaz ["a","b","low","high"] zcW (zat zg5):=fsc
abbrev zj7:Stmt:=top 6
abbrev zdo:List Str:=["a","b"]
theorem zqs:zaz ["a","b"] zdo (zat zj7):=fsc
abbrev zje:Stmt:=zaP (top 26) 2
abbrev zgw:List Str:=["self","here","x","y","grid"]
theorem zpI:zaz ["self","here","x","y","grid"] zgw (zat zje):=fsc
abbrev ziR:Stmt:=zaP (top 26) 3
abbrev zfx:List Str:=["self","here","x","y","grid"]
theorem zqW:zaz ["self","here","x","y","grid"] zfx (zat ziR):=fsc
abbrev zkg:Stmt:=zaP (top 25) 1
abbrev zfu:List Str:=["self","spans","here","grid"]
theorem zi4:zaz ["self","spans","here","grid","x","y"] zfu (zat zkg):=fsc
abbrev zil:Stmt:=top 5
abbrev ze5:List Str:=["a","b"]
theorem zoc:zaz ["a","b"] ze5 (zat zil):=fsc
abbrev zir:Stmt:=zaP (top 27) 2
abbrev zfH:List Str:=["self","here","x","y","grid"]
theorem zsg:zaz ["self","here","x","y","grid"] zfH (zat zir):=fsc
abbrev zgy:Stmt:=zaP (top 27) 3
abbrev zeU:List Str:=["self","here","x","y","grid"]
theorem zoZ:zaz ["self","here","x","y","grid"] zeU (zat zgy):=fsc
abbrev zi3:Stmt:=zaP (top 25) 1
abbrev zfm:List Str:=["self","spans","here","grid"]
theorem zjH:zaz ["self","spans","here","grid","x","y"] zfm (zat zi3):=fsc
abbrev zj3:Stmt:=top 10
abbrev zge:List Str:=["span"]
theorem zs3:zaz ["span"] zge (zat zj3):=fsc
abbrev zki:Stmt:=top 13
abbrev zeL:List Str:=["x","low","high"]
theorem zpl:zaz ["x","low","high"] zeL (zat zki):=fsc
abbrev zgY:Stmt:=top 4
abbrev zfX:List Str:=["top","bottom"]
theorem zsO:zaz ["top","bottom"] zfX (zat zgY):=fsc
abbrev zjN:Stmt:=top 14
abbrev zgn:List Str:=["top","bottom"]
theorem zoa:zaz ["top","bottom"] zgn (zat zjN):=fsc
abbrev zid:Stmt:=top 15
abbrev zeV:List Str:=["products","x","y"]
theorem zfD:zaz ["products","x","y","low_by","high_by","low","high"] zeV (zat zid):=fsc
abbrev ziu:Stmt:=top 8
abbrev ze3:List Str:=["a","b"]
theorem zpQ:zaz ["a","b"] ze3 (zat ziu):=fsc
abbrev zjy:Stmt:=top 12
abbrev zes:List Str:=["one","other"]
theorem zq1:zaz ["one","other"] zes (zat zjy):=fsc
abbrev zja:Stmt:=top 11
abbrev zde:List Str:=["pair"]
theorem zpF:zaz ["pair"] zde (zat zja):=fsc
abbrev zjE:Stmt:=top 16
abbrev zeM:List Str:=["z","x","y","grid"]
theorem zez:zaz ["z","x","y","grid","products","left","turned"] zeM (zat zjE):=fsc
abbrev zhu:Stmt:=zaP (top 28) 2
abbrev zgh:List Str:=["self","here","x","y","grid"]
theorem zpm:zaz ["self","here","x","y","grid"] zgh (zat zhu):=fsc
abbrev zhV:Stmt:=zaP (top 28) 3
abbrev zfC:List Str:=["self","here","x","y","grid"]
theorem zqM:zaz ["self","here","x","y","grid"] zfC (zat zhV):=fsc
abbrev ziP:Stmt:=zaP (top 25) 1
abbrev zfj:List Str:=["self","spans","here","grid"]
theorem zkb:zaz ["self","spans","here","grid","x","y"] zfj (zat ziP):=fsc
abbrev zhj:Stmt:=top 2
abbrev zcU:List Str:=["number","many"]
theorem zhB:zaz ["number","many","worth","step"] zcU (zat zhj):=fsc
abbrev ziy:Stmt:=top 18
abbrev zf0:List Str:=["guess","number","many"]
theorem zn1:zaz ["guess","number","many"] zf0 (zat ziy):=fsc
abbrev zjc:Stmt:=top 17
abbrev zeG:List Str:=["number","many"]
theorem zgo:zaz ["number","many","guess","better"] zeG (zat zjc):=fsc
abbrev zfM:Stmt:=top 19
abbrev zcI:List Str:=["number","many"]
theorem ziF:zaz ["number","many","below"] zcI (zat zfM):=fsc
abbrev zib:Stmt:=top 20
abbrev zgs:List Str:=["z","x","many","grid"]
theorem zfz:zaz ["z","x","many","grid","scale","powers","low","high"] zgs (zat zib):=fsc
abbrev zjV:Stmt:=zaP (top 29) 3
abbrev zfT:List Str:=["self","spans","here","grid"]
theorem zmZ:zaz ["self","spans","here","grid","x"] zfT (zat zjV):=fsc
abbrev zcO:Stmt:=top 55
abbrev zit:List Str:=["_law_script"]
theorem zbo:zaz ["_law_script","_law_cells","_law_grid_here","_law_many","_law_box","_law_spans","_law_k","_law_c","_law_node_here","_law_z","_law_due","_law_made_here","_law_handed"] zit (zat zcO):=fsc
theorem kfo {K:PySem.W.Frag}{f c:Addr}{m:Value}{n q:Str}{st:Stmt}(l:K.lookup f=some (fo n q st m c)):PySem.W.keepIn K (.ref f)=true:=by
 unfold PySem.W.keepIn
 simp only[l]
theorem ifo {K:PySem.W.Frag}{f c:Addr}{m:Value}{n q:Str}{st:Stmt}(l:K.lookup f=some (fo n q st m c)):PySem.W.isFn K (.ref f)=true:=by
 unfold PySem.W.isFn PySem.W.typeIn
 simp only[l]
 rfl
theorem ln1 {P:List Value→Prop}(h:∀a,P [a]):∀us:List Value,us.length=1→P us
 | [a],_=>h a
theorem ln2 {P:List Value→Prop}(h:∀a b,P [a,b]):∀us:List Value,us.length=2→P us
 | [a,b],_=>h a b
theorem ln3 {P:List Value→Prop}(h:∀a b c,P [a,b,c]):∀us:List Value,us.length=3→P us
 | [a,b,c],_=>h a b c
theorem ln4 {P:List Value→Prop}(h:∀a b c d,P [a,b,c,d]):∀us:List Value,us.length=4→P us
 | [a,b,c,d],_=>h a b c d
theorem ln5 {P:List Value→Prop}(h:∀a b c d e,P [a,b,c,d,e]):∀us:List Value,us.length=5→P us
 | [a,b,c,d,e],_=>h a b c d e
abbrev Bn (n q:Str)(st:Stmt)(ps:List Str):Prop:=∀(kV doc pm:Value) (an:Option Addr) (cdv ct:Value) (us:List Value),us.length=ps.length→bindArgs (PySem.W.fnOf n q (zdJ st) (zcB st) (zat st) .none kV doc pm an cdv ct) ⟨us,[]⟩=pure (ps.zip us)
def dfo {K:PySem.W.Frag}{mg:Str→Option Value}{h:Heap}(X:K.In h)(G:h.Ns mainGlobals mg){n:Str}{st:Stmt}{f c:Addr}{m:Value}{ps:List Str}(a:PySem.W.nsIn K mainGlobals n=some (some (.ref f)))(l:K.lookup f=some (fo n n st m c))(e:PySem.W.codeIn K (.ref c) n=true)(b:Bn n n st ps):Df K mg n st ps:=⟨_,_,zj0 (st:=st) l e (kfo l),PySem.W.mg_of X G a,(zj0 (st:=st) l e (kfo l)).binds b⟩
def dmo {K:PySem.W.Frag}{C:Addr}{n q:Str}{st:Stmt}{f c:Addr}{m:Value}{ps:List Str}(a:PySem.W.findIn K (.ref C) n=some (some (.ref f)))(l:K.lookup f=some (fo n q st m c))(e:PySem.W.codeIn K (.ref c) q=true)(b:Bn n q st ps):Dm K C n q st ps:=⟨_,_,zj0 (st:=st) l e (kfo l),⟨a,ifo l,kfo l⟩,(zj0 (st:=st) l e (kfo l)).binds b⟩
abbrev nsA (K:PySem.W.Frag)(n:Str)(f:Addr):Prop:=PySem.W.nsIn K mainGlobals n=some (some (.ref f))
abbrev fdA (K:PySem.W.Frag)(C:Addr)(n:Str)(f:Addr):Prop:=PySem.W.findIn K (.ref C) n=some (some (.ref f))
abbrev lkA (K:PySem.W.Frag)(f:Addr)(n q:Str)(st:Stmt)(m:Value)(c:Addr):Prop:=K.lookup f=some (fo n q st m c)
abbrev cdA (K:PySem.W.Frag)(c:Addr)(q:Str):Prop:=PySem.W.codeIn K (.ref c) q=true
theorem zaV {C:Addr}{f:Str}{to:TDE}{dl:Ev}{S S1:Sto}{Q:DK}{n:Nat}{fs:List (Str×D)}{v:D}(hto:∀K:DK,K (.ref n) S1→to dl S K)(h:S1[n]?=some (.ins C fs))(hf:fs.lookup f=some v)(hq:Q v S1):zh0 C f to dl S Q:=by
 unfold zh0
 refine hto _ ?_
 simp only[zct,h,if_pos,hf]
 exact hq
theorem zb8 {C:Addr}{f:Str}{to te:TDE}{dl:Ev}{S S1 S2:Sto}{E:zcG}{n:Nat}{fs:List (Str×D)}{v:D}(hte:∀K:DK,K v S1→te dl S K)(hto:∀K:DK,K (.ref n) S2→to dl S1 K)(h:S2[n]?=some (.ins C fs))(hl:fs.length<1000)(hq:E.nx dl (S2.set n (.ins C (zeS f v fs)))):zjs C f to te E dl S:=by
 unfold zjs
 refine hte _ (hto _ ?_)
 simp only[zct,h,if_pos]
 exact⟨hl,hq⟩
theorem zcE {C:Addr}{m:Str}{ex:Ev→Addr→Sto→Prop}{sd:Sd}{to:TDE}{t:TDA}{dl:Ev}{S S1:Sto}{Q:DK}{n:Nat}{fs:List (Str×D)}(hto:∀K:DK,K (.ref n) S1→to dl S K)(h:S1[n]?=some (.ins C fs))(hf:fs.lookup m=none)(hq:t dl S1 λds S2=>sd (.ref n::ds) S2 Q (ex dl)):zjk C m ex sd to t dl S Q:=by
 unfold zjk
 refine hto _ ?_
 simp only[zct,h,if_pos]
 exact⟨hf,hq⟩
theorem zqH {te:TDE}{dl:Ev}{S:Sto}{Q:DK}{n:Nat}{xs:List D}(ht:∀K:DK,K (.ref n) S→te dl S K)(h:S[n]?=some (.lst xs))(hq:Q (.bl true) S):ziw "list" te dl S Q:=by
 unfold ziw
 refine ht _ ?_
 simp only[h]
 exact hq
theorem zdv {to ti te:TDE}{dl:Ev}{S:Sto}{E:zcG}{n j:Nat}{k:Int}{xs:List D}{v:D}(hte:∀K:DK,K v S→te dl S K)(hto:∀K:DK,K (.ref n) S→to dl S K)(hti:∀K:DK,K (.int k) S→ti dl S K)(h:S[n]?=some (.lst xs))(hj:ixN xs.length k=some j)(hq:E.nx dl (S.set n (.lst (xs.set j v)))):zht to ti te E dl S:=by
 unfold zht
 refine hte _ (hto _ (hti _ ?_))
 simp only[h,hj]
 exact hq
theorem zdD {n:Nat}{S:Sto}{Q:DK}{xs:List D}(h:S[n]?=some (.lst xs))(hq:Q (.int (xs.length:Nat)) S):irr zeo [.ref n] S Q:=by
 rw[zf9]
 unfold zeo
 simp only[za8 h rfl]
 exact hq
theorem zdi {S:Sto}{n a:Nat}{o u:Ob}(h:S[n]?=some o)(hn:a≠n):(S.set a u)[n]?=some o:=by rw[VaI hn]; exact h
theorem zlq {S:Sto}{n:Nat}{o u:Ob}(h:S[n]?=some o):(S.set n u)[n]?=some u:=by
 have hk:=(Vad.mp h).1
 simp[hk]
theorem zay {S:Sto}{n:Nat}{o:Ob}{T:Sto}(h:S[n]?=some o):(S++T)[n]?=some o:=by
 have hk:=(Vad.mp h).1
 rw[Var hk]
 exact h
theorem zcl (T R:Sto)(u:Ob):(T++u::R)[T.length]?=some u:=by simp
theorem zco (T R:Sto)(u v:Ob):(T++u::R).set T.length v=T++v::R:=by simp
theorem zd8 {S:Sto}{n:Nat}{o:Ob}(h:S[n]?=some o):n<S.length:=(Vad.mp h).1
theorem zsE {xs:List Int}{lo hi:Option Int}{k:Nat}{x:D}(h:(zbg (xs.map D.int) lo hi)[k]?=some x):∃c:Int,x=.int c:=by
 have m:=Vat h
 unfold L3.zbg at m
 obtain⟨c,_,rfl⟩:=List.mem_map.mp (List.mem_of_mem_drop (List.mem_of_mem_take m))
 exact⟨c,rfl⟩
theorem zdx {i n:Nat}{tb:TDS}{E:zcG}{dl:Ev}{S:Sto}{o:Ob}(W:Nat→Ev→Sto→Prop)(h0:W 0 dl S)(hk:∀k dl' S',W k dl' S'→S'[n]?=some o)
  (ht:∀(k:Nat) (x:D) (dl':Ev) (S':Sto) (nx ct:Ev→Sto→Prop),(zav o)[k]?=some x→W k dl' S'→(∀dl2 S2,W (k+1) dl2 S2→nx dl2 S2)→tb { nx:=nx,rt:=E.rt,bk:=E.nx,ct:=ct } (dl'.set i (some x)) S')(he:∀dl' S',W (zav o).length dl' S'→E.nx dl' S')(hL:zbC o=some o:=by rfl):
  (lAt S n).isSome=true∧∃W:Nat→Nat→Ev→Sto→Prop,(∃m,W 0 m dl S)∧∀k m dl S,W k m dl S→match lAt S n with
  | some o=>match (zav o)[k]? with
   | some x=>tb { nx:=λdl' S'=>∃m',m'<m∧W (k+1) m' dl' S',rt:=E.rt,bk:=E.nx,ct:=λdl' S'=>∃m',m'<m∧W (k+1) m' dl' S' } (dl.set i (some x)) S
   | none=>E.nx dl S
  | none=>False:=by
 refine⟨by rw[za8 (hk _ _ _ h0) hL]; rfl,λk m dl' S'=>m+k=(zav o).length∧W k dl' S',⟨(zav o).length,by omega,h0⟩,?_⟩
 rintro k m dl' S' ⟨hm,w⟩
 rw[za8 (hk _ _ _ w) hL]
 show (match (zav o)[k]? with
   | some x=>tb { nx:=λdl' S''=>∃m',m'<m∧(m'+(k+1)=(zav o).length∧W (k+1) dl' S''),rt:=E.rt,bk:=E.nx,ct:=λdl' S''=>∃m',m'<m∧(m'+(k+1)=(zav o).length∧W (k+1) dl' S'') } (dl'.set i (some x)) S'
   | none=>E.nx dl' S')
 split
 ·rename_i x hx
  have hk:k<(zav o).length:=(Vad.mp hx).1
  exact ht k x dl' S' _ _ hx w λdl2 S2 w2=>⟨m-1,by omega,by omega,w2⟩
 ·rename_i hx
  have hk:k=(zav o).length:=by
   have:=Vay.mp hx
   omega
  exact he dl' S' (hk ▸ w)
inductive Nd where
 | number (t b:Int) | unknown (k:Int) | plus (i j:Int) | minus (i j:Int) | times (i j:Int) | power (i n:Int)
def Nd.d:Nd→D
 | .number t b=>.tup [.str "number",.int t,.int b]
 | .unknown k=>.tup [.str "unknown",.int k]
 | .plus i j=>.tup [.str "plus",.int i,.int j]
 | .minus i j=>.tup [.str "minus",.int i,.int j]
 | .times i j=>.tup [.str "times",.int i,.int j]
 | .power i n=>.tup [.str "power",.int i,.int n]
def Nd.ob (cN cU cP cM cT cW:Addr):Nd→Ob
 | .number t b=>.ins cN [("top",.int t),("bottom",.int b)]
 | .unknown k=>.ins cU [("place",.int k)]
 | .plus i j=>.ins cP [("one",.int i),("other",.int j)]
 | .minus i j=>.ins cM [("one",.int i),("other",.int j)]
 | .times i j=>.ins cT [("one",.int i),("other",.int j)]
 | .power i n=>.ins cW [("one",.int i),("many",.int n)]
def inR (m i:Int):Prop:=0≤i∧i<m
def Nd.ok (m q:Int):Nd→Prop
 | .number t b=>(1≤b∧b≤10^9)∧Int.gcd t b=1∧t.natAbs≤10^9
 | .unknown k=>inR q k
 | .plus i j=>inR m i∧inR m j
 | .minus i j=>inR m i∧inR m j
 | .times i j=>inR m i∧inR m j
 | .power i n=>inR m i∧2≤n∧n≤6
def frD (p:Int×Int):D:=.tup [.int p.1,.int p.2]
abbrev gt (vs:List (Int×Int))(i:Int):Int×Int:=vs.getD i.toNat (0,1)
theorem zlL {vs:List (Int×Int)}{i:Int}(h:inR vs.length i):gt vs i∈vs:=by
 obtain⟨h0,h1⟩:=h
 have hk:i.toNat<vs.length:=by omega
 have e:gt vs i=vs[i.toNat]:=by simp[gt,hk]
 rw[e]
 exact List.getElem_mem hk
theorem zaY {vs:List (Int×Int)}{i:Int}(h:inR vs.length i):atI (vs.map frD) i=some (frD (gt vs i)):=by
 obtain⟨h0,h1⟩:=h
 have hk:i.toNat<vs.length:=by omega
 have z:=zeh (xs:=vs.map frD) (j:=i.toNat) (v:=frD (gt vs i)) (by rw[Vah,VaB hk]; simp[gt,hk])
 rw[show ((i.toNat:Nat):Int)=i by omega] at z
 exact z
theorem fr_eq (p q:Int×Int):eqN 1 (frD p) (frD q)=some (decide (p.1=q.1)&&(decide (p.2=q.2)&&true)):=by simp[frD,eqN,L3.eqT,eqL,eqF]
theorem zlf:∀vs:List (Int×Int),eqL (eqN 1) (vs.map frD) (vs.map frD)=some true
 | []=>rfl
 | u::us=>by
  show (match eqN 1 (frD u) (frD u),eqL (eqN 1) (us.map frD) (us.map frD) with | some b,some c=>some (b&&c) | _,_=>none)=_
  rw[fr_eq,zlf us]
  simp
theorem zkL {G:Int×Int→Prop}:∀xs:List D,(∀(k:Nat) (d:D),xs[k]?=some d→∃p,d=frD p∧G p)→∃vs:List (Int×Int),xs=vs.map frD∧∀p∈vs,G p
 | [],_=>⟨[],rfl,λp h=>by cases h⟩
 | x::xs,h=>by
  obtain⟨p,rfl,hp⟩:=h 0 x rfl
  obtain⟨vs,rfl,hv⟩:=zkL xs λk d hd=>h (k+1) d hd
  exact⟨p::vs,rfl,λq hq=>by
   rcases Vae.mp hq with e | e
   ·subst e; exact hp
   ·exact hv q e⟩
theorem zmj {xs:List D}{d e:D}{i:Nat}{P:Nat→D→Prop}(h:(xs++[d])[i]?=some e)(hp:∀i d,xs[i]?=some d→P i d)(hd:P xs.length d):P i e:=by
 by_cases hi:i<xs.length
 ·rw[Var hi] at h
  exact hp i e h
 ·have hk:=(Vad.mp h).1
  simp only[VaD,VaP,List.length_nil] at hk
  have e1:i=xs.length:=by omega
  subst e1
  simp at h
  subst h
  exact hd
theorem znX {caps:List Nat}{ta:TDA}{te:TDE}{dl:Ev}{S S1:Sto}{Q:DK}{j:Int}(P:Nat→D→Prop)(hta:∀K:List D→Sto→Prop,K [.int j] S1→ta dl S K)(hj:0≤j∧j≤1000)
  (ht:∀k:Nat,k<j.toNat→∀(S2:Sto) (K:DK),Pre S1 S2→(∀d,P k d→K d S2)→te (some (.int k)::zcm caps dl) S2 K)(hq:∀xs:List D,xs.length=j.toNat→(∀k d,xs[k]?=some d→P k d)→Q (.ref S1.length) (S1++[.lst xs])):zfa caps ta zdE te dl S Q:=by
 unfold zfa
 refine hta _ ⟨⟨by omega,by omega⟩,λk S2=>(∃xs:List D,S2=S1++[.lst xs]∧xs.length=k∧∀i d,xs[i]?=some d→P i d)∧k≤j.toNat,⟨⟨[],rfl,rfl,λi d h=>by simp at h⟩,by omega⟩,?_⟩
 rintro k S2 ⟨⟨xs,rfl,hx,hp⟩,hk⟩
 split
 ·rename_i hk'
  unfold zdn zdE
  simp only[if_true]
  refine ht k hk' _ _ Pre.refl.push λd hd=>?_
  rw[zaC]
  refine⟨by omega,⟨xs++[d],zcR _ _ _,by simp[hx],λi e he=>zmj he hp (hx ▸ hd)⟩,by omega⟩
 ·have e:k=j.toNat:=by omega
  subst e
  exact hq xs hx hp
theorem zni {caps:List Nat}{tl te:TDE}{dl:Ev}{S S1:Sto}{Q:DK}{n:Nat}{o:Ob}(P:Nat→D→Prop)(htl:∀K:DK,K (.ref n) S1→tl dl S K)(h1:S1[n]?=some o)(hl:(zav o).length≤1000)
  (ht:∀(k:Nat) (x:D),(zav o)[k]?=some x→∀(S2:Sto) (K:DK),Pre S1 S2→(∀d,P k d→K d S2)→te (some x::zcm caps dl) S2 K)(hq:∀xs:List D,xs.length=(zav o).length→(∀k d,xs[k]?=some d→P k d)→Q (.ref S1.length) (S1++[.lst xs]))(hL:zbC o=some o:=by rfl):zbD caps tl zdE te dl S Q:=by
 unfold zbD
 refine htl _ ⟨by rw[za8 h1 hL]; rfl,λk m S2=>(∃xs:List D,S2=S1++[.lst xs]∧xs.length=k∧∀i d,xs[i]?=some d→P i d)∧m+k=(zav o).length,⟨(zav o).length,⟨[],rfl,rfl,λi d h=>by simp at h⟩,by omega⟩,?_⟩
 rintro k m S2 ⟨⟨xs,rfl,hx,hp⟩,hm⟩
 rw[za8 (zlD h1) hL]
 dsimp only
 split
 ·rename_i x hk
  have hk':k<(zav o).length:=(Vad.mp hk).1
  unfold zdn zdE
  simp only[if_true]
  refine ht k x hk _ _ Pre.refl.push λd hd=>?_
  rw[zaC]
  refine⟨by omega,m-1,by omega,⟨xs++[d],zcR _ _ _,by simp[hx],λi e he=>zmj he hp (hx ▸ hd)⟩,by omega⟩
 ·rename_i hk
  have hk':=Vay.mp hk
  exact hq xs (by omega) hp
theorem zrO {α:Type}{xs:List D}{lo hi:Option Int}:(zbg xs lo hi).length≤xs.length:=by
 unfold L3.zbg
 rw[VaQ,List.length_drop]
 omega
theorem zrt {S T:Sto}(h:Pre S T){n:Nat}{o:Ob}(e:S[n]?=some o):T[n]?=some o:=h n o e
structure zgc (a b c d mn mx:Int):Prop where
 lo:mn=a*c∨mn=a*d∨mn=b*c∨mn=b*d
 l1:mn≤a*c
 l2:mn≤a*d
 l3:mn≤b*c
 l4:mn≤b*d
 hi:mx=a*c∨mx=a*d∨mx=b*c∨mx=b*d
 h1:a*c≤mx
 h2:a*d≤mx
 h3:b*c≤mx
 h4:b*d≤mx
theorem zgc.of {a b c d mn mx:Int}(m1:mn∈[a*c,a*d,b*c,b*d])(m2:∀y∈[a*c,a*d,b*c,b*d],mn≤y)(x1:mx∈[a*c,a*d,b*c,b*d])(x2:∀y∈[a*c,a*d,b*c,b*d],y≤mx):zgc a b c d mn mx:=by
 simp only[Vae,Vap,or_false] at m1 x1
 exact⟨m1,m2 _ (by simp),m2 _ (by simp),m2 _ (by simp),m2 _ (by simp),x1,x2 _ (by simp),x2 _ (by simp),x2 _ (by simp),x2 _ (by simp)⟩
structure zeT (a b:Int)(n:Nat)(m M:Int):Prop where
 lo:m=a^n∨m=b^n∨(a<0∧0<b∧m=0)
 l1:m≤a^n
 l2:m≤b^n
 l3:a<0→0<b→m≤0
 hi:M=a^n∨M=b^n
 h1:a^n≤M
 h2:b^n≤M
theorem zpow {n:Nat}(h:1≤n):(0:Int)^n=0:=by
 cases n with
 | zero=>omega
 | succ k=>rw[Vac,VaL]
theorem zmE (n:Nat):(∀x:Int,(-x)^n=x^n)∨(∀x:Int,(-x)^n=-(x^n)):=by
 induction n with
 | zero=>left; intro x; rw[VaE,VaE]
 | succ k ih=>
  rcases ih with e | e
  ·right; intro x; rw[Vac,Vac,e,VaM]
  ·left; intro x; rw[Vac,Vac,e,Int.neg_mul_neg]
theorem zei {x y:Int}(h0:0≤x)(h:x≤y)(n:Nat):x^n≤y^n:=by
 induction n with
 | zero=>rw[VaE,VaE]; exact Vaw _
 | succ k ih=>
  rw[Vac,Vac]
  exact Int.mul_le_mul ih h h0 (Vax (by omega))
theorem zso {y z x m M:Int}{n:Nat}(hn:1≤n)(h1:y≤x)(h2:x≤z)(m1:m≤y^n)(m2:m≤z^n)(m3:y<0→0<z→m≤0)(M1:y^n≤M)(M2:z^n≤M):m≤x^n∧x^n≤M:=by
 by_cases hy:0≤y
 ·have e1:=zei hy h1 n
  have e2:=zei (show 0≤x by omega) h2 n
  omega
 ·by_cases hz:z≤0
  ·have e1:=zei (show 0≤-z by omega) (show -z≤-x by omega) n
   have e2:=zei (show 0≤-x by omega) (show -x≤-y by omega) n
   rcases zmE n with p | p <;> rw[p,p] at e1 e2 <;> omega
  ·have m3':=m3 (by omega) (by omega)
   have z0:(0:Int)≤z^n:=Vax (by omega)
   by_cases hx:0≤x
   ·have e1:(0:Int)≤x^n:=Vax hx
    have e2:=zei hx h2 n
    omega
   ·have e1:(0:Int)≤(-x)^n:=Vax (by omega)
    have e2:=zei (show 0≤-x by omega) (show -x≤-y by omega) n
    rcases zmE n with p | p
    ·rw[p] at e1
     rw[p,p] at e2
     omega
    ·rw[p] at e1
     rw[p,p] at e2
     omega
theorem zeT.scale {a b:Int}{n:Nat}{m M:Int}(h:zeT a b n m M)(hn:1≤n){p x:Int}(hp:1≤p)(h1:a*p≤x)(h2:x≤b*p):m*p^n≤x^n∧x^n≤M*p^n:=by
 have pp:(0:Int)≤p^n:=Vax (by omega)
 refine zso hn h1 h2 ?_ ?_ ?_ ?_ ?_
 ·rw[Int.mul_pow]; exact VaF h.l1 pp
 ·rw[Int.mul_pow]; exact VaF h.l2 pp
 ·intro y1 y2
  have a1:a<0:=by
   by_cases q:a<0
   ·exact q
   ·have:=Van (show 0≤a by omega) (show 0≤p by omega)
    omega
  have b1:0<b:=by
   by_cases q:0<b
   ·exact q
   ·have:=Van (show 0≤-b by omega) (show 0≤p by omega)
    rw[Vai] at this
    omega
  have:=Van (show 0≤-m by have:=h.l3 a1 b1; omega) pp
  rw[Vai] at this
  omega
 ·rw[Int.mul_pow]; exact VaF h.h1 pp
 ·rw[Int.mul_pow]; exact VaF h.h2 pp
theorem zeT.of {a b g mn mx:Int}{n:Nat}(hg:1≤g){l:List Int}(hl:l=[a^n*g,b^n*g]∧¬ (a<0∧0<b)∨l=[a^n*g,b^n*g,0^n*g]∧a<0∧0<b)(hn:1≤n)(m1:mn∈l)(m2:∀y∈l,mn≤y)(x1:mx∈l)(x2:∀y∈l,y≤mx):
  ∃m M,zeT a b n m M∧mn=m*g∧mx=M*g:=by
 have can:∀ {x y:Int},x*g≤y*g→x≤y:=λ{x y} h=>Int.le_of_mul_le_mul_right h (by omega)
 rcases hl with ⟨rfl,hz⟩ | ⟨rfl,hz1,hz2⟩
 ·simp only[Vae,Vap,or_false] at m1 x1
  have a1:=m2 (a^n*g) (by simp)
  have a2:=m2 (b^n*g) (by simp)
  have b1:=x2 (a^n*g) (by simp)
  have b2:=x2 (b^n*g) (by simp)
  obtain⟨m,hm,em⟩:∃m,(m=a^n∨m=b^n)∧mn=m*g:=by
   rcases m1 with e | e
   ·exact⟨_,.inl rfl,e⟩
   ·exact⟨_,.inr rfl,e⟩
  obtain⟨M,hM,eM⟩:∃m,(m=a^n∨m=b^n)∧mx=m*g:=by
   rcases x1 with e | e
   ·exact⟨_,.inl rfl,e⟩
   ·exact⟨_,.inr rfl,e⟩
  subst em eM
  exact⟨m,M,⟨hm.elim .inl λe=>.inr (.inl e),can a1,can a2,λc1 c2=>absurd ⟨c1,c2⟩ hz,hM,can b1,can b2⟩,rfl,rfl⟩
 ·rw[zpow hn,Int.zero_mul] at m1 m2 x1 x2
  simp only[Vae,Vap,or_false] at m1 x1
  have a1:=m2 (a^n*g) (by simp)
  have a2:=m2 (b^n*g) (by simp)
  have a3:=m2 0 (by simp)
  have b1:=x2 (a^n*g) (by simp)
  have b2:=x2 (b^n*g) (by simp)
  have b3:=x2 0 (by simp)
  obtain⟨m,hm,em⟩:∃m,(m=a^n∨m=b^n∨m=0)∧mn=m*g:=by
   rcases m1 with e | e | e
   ·exact⟨_,.inl rfl,e⟩
   ·exact⟨_,.inr (.inl rfl),e⟩
   ·exact⟨0,.inr (.inr rfl),by rw[e,Int.zero_mul]⟩
  have bp:(0:Int)≤b^n:=Vax (by omega)
  have bg:=Van bp (show 0≤g by omega)
  obtain⟨M,hM,eM⟩:∃m,(m=a^n∨m=b^n)∧mx=m*g:=by
   rcases x1 with e | e | e
   ·exact⟨_,.inl rfl,e⟩
   ·exact⟨_,.inr rfl,e⟩
   ·exact⟨_,.inr rfl,by omega⟩
  subst em eM
  refine⟨m,M,⟨?_,can a1,can a2,λ_ _=>can (by rw[Int.zero_mul]; exact a3),hM,can b1,can b2⟩,rfl,rfl⟩
  rcases hm with e | e | e
  ·exact .inl e
  ·exact .inr (.inl e)
  ·exact .inr (.inr ⟨hz1,hz2,e⟩)
def mn4 (a b c d:Int):Int:=min (min (a*c) (a*d)) (min (b*c) (b*d))
def mx4 (a b c d:Int):Int:=max (max (a*c) (a*d)) (max (b*c) (b*d))
theorem zgc.eq {a b c d mn mx:Int}(h:zgc a b c d mn mx):mn=mn4 a b c d∧mx=mx4 a b c d:=by
 obtain⟨h0,h1,h2,h3,h4,h5,h6,h7,h8,h9⟩:=h
 unfold mn4 mx4
 omega
def zb1 (a b:Int)(n:Nat):Int:=if n%2=0∧a≤0∧0≤b then 0 else min (a^n) (b^n)
def zcb (a b:Int)(n:Nat):Int:=max (a^n) (b^n)
theorem zhn {n:Nat}(h:n%2=0)(x:Int):0≤x^n:=by
 obtain⟨k,rfl⟩:∃k,n=k+k:=⟨n/2,by omega⟩
 rw[Int.pow_add]
 by_cases c:0≤x^k
 ·exact Van c c
 ·have:=Van (show 0≤-(x^k) by omega) (show 0≤-(x^k) by omega)
  rw[Int.neg_mul_neg] at this
  exact this
theorem znY {n:Nat}(h:n%2=1){x:Int}(hx:x<0):x^n<0:=by
 obtain⟨k,rfl⟩:∃k,n=k+1:=⟨n-1,by omega⟩
 have z:=zhn (n:=k) (by omega) x
 have nz:∀k:Nat,x^k≠0:=λk=>by
  induction k with
  | zero=>rw[VaE]; decide
  | succ k ih=>rw[Vac]; exact Int.mul_ne_zero ih (by omega)
 have nz:=nz k
 have:=Int.mul_pos (show 0<x^k by omega) (show 0 < -x by omega)
 rw[VaM] at this
 rw[Vac]
 omega
theorem zeT.eq {a b m M:Int}{n:Nat}(h:zeT a b n m M)(hn:1≤n):m=zb1 a b n∧M=zcb a b n:=by
 obtain⟨h0,h1,h2,h3,h4,h5,h6⟩:=h
 refine⟨?_,by unfold zcb; omega⟩
 unfold zb1
 split
 ·rename_i c
  obtain⟨c1,c2,c3⟩:=c
  have e1:=zhn c1 a
  have e2:=zhn c1 b
  by_cases z:a<0∧0<b
  ·have:=h3 z.1 z.2
   omega
  ·have z':a=0∨b=0:=by omega
   rcases z' with rfl | rfl
   ·rw[zpow hn] at h1
    omega
   ·rw[zpow hn] at h2
    omega
 ·rename_i c
  have hz:a<0→0<b→m≠0:=λa1 b1 e=>by
   by_cases p:n%2=0
   ·exact c ⟨p,by omega,by omega⟩
   ·have:=znY (n:=n) (by omega) a1
    omega
  omega
def Nd.fw (vs bs:List (Int×Int))(g:Int):Nd→Int×Int
 | .number t b=>(t*g/b,-(-(t*g)/b))
 | .unknown k=>gt bs k
 | .plus i j=>((gt vs i).1+(gt vs j).1,(gt vs i).2+(gt vs j).2)
 | .minus i j=>((gt vs i).1-(gt vs j).2,(gt vs i).2-(gt vs j).1)
 | .times i j=>(mn4 (gt vs i).1 (gt vs i).2 (gt vs j).1 (gt vs j).2/g,-(-mx4 (gt vs i).1 (gt vs i).2 (gt vs j).1 (gt vs j).2/g))
 | .power i n=>(zb1 (gt vs i).1 (gt vs i).2 n.toNat/g^(n.toNat-1),-(-zcb (gt vs i).1 (gt vs i).2 n.toNat/g^(n.toNat-1)))
def Spn (B:Nat)(vs:List (Int×Int)):Prop:=∀p∈vs,p.1≤p.2∧Sz B p.1∧Sz B p.2
theorem Spn.at {B:Nat}{vs:List (Int×Int)}(h:Spn B vs){i:Int}(hi:inR vs.length i):(gt vs i).1≤(gt vs i).2∧Sz B (gt vs i).1∧Sz B (gt vs i).2:=h _ (zlL hi)
theorem Spn.mono {B C:Nat}{vs:List (Int×Int)}(h:Spn B vs)(hc:B≤C):Spn C vs:=λp hp=>⟨(h p hp).1,(h p hp).2.1.mono hc,(h p hp).2.2.mono hc⟩
theorem zlK {m M g:Int}(hg:1≤g)(h:m≤M):m/g≤-(-M/g):=by
 have h1:=Int.ediv_mul_le m (show g≠0 by omega)
 have h2:=Int.ediv_mul_le (-M) (show g≠0 by omega)
 have:m/g*g≤-(-M/g)*g:=by rw[Vai]; omega
 exact Int.le_of_mul_le_mul_right this (by omega)
theorem zql (a b:Int)(n:Nat):zb1 a b n≤zcb a b n:=by
 unfold zb1 zcb
 split
 ·rename_i c
  have:=zhn c.1 a
  omega
 ·omega
theorem zou (a b c d:Int):mn4 a b c d≤mx4 a b c d:=by unfold mn4 mx4; omega
theorem Nd.fw_le {vs bs:List (Int×Int)}{g:Int}{B:Nat}(h1:Spn B vs)(h2:Spn B bs)(hg:1≤g):∀v:Nd,v.ok vs.length bs.length→(v.fw vs bs g).1≤(v.fw vs bs g).2
 | .number t b,ok=>zlK ok.1.1 (Vaw _)
 | .unknown k,ok=>(h2.at ok).1
 | .plus i j,ok=>by
  have a:=(h1.at ok.1).1
  have b:=(h1.at ok.2).1
  show (gt vs i).1+(gt vs j).1≤(gt vs i).2+(gt vs j).2
  omega
 | .minus i j,ok=>by
  have a:=(h1.at ok.1).1
  have b:=(h1.at ok.2).1
  show (gt vs i).1-(gt vs j).2≤(gt vs i).2-(gt vs j).1
  omega
 | .times i j,ok=>zlK hg (zou _ _ _ _)
 | .power i n,ok=>zlK (Vau (by omega)) (zql _ _ _)
theorem zqZ {n:Nat}(p:Int×Int):Sco n (frD p):=zcj
def zaW (p q:Int×Int):Option (Int×Int):=if (if q.2<p.2 then q.2 else p.2)<(if q.1 > p.1 then q.1 else p.1) then none else some (if q.1 > p.1 then q.1 else p.1,if q.2<p.2 then q.2 else p.2)
theorem zr0 {p q r:Int×Int}(h:zaW p q=some r):r.1≤r.2:=by
 have go:∀lo hi:Int,(if hi<lo then none else some (lo,hi))=some r→r.1≤r.2:=λlo hi e=>by
  split at e
  ·cases e
  ·rename_i c
   cases e
   exact Int.not_lt.mp c
 exact go _ _ h
def ptD (q:Int×(Int×Int)):D:=.tup [.int q.1,.tup [.int q.2.1,.int q.2.2]]
theorem zl9 {l:List (Int×(Int×Int))}{k:Nat}{q:Int×(Int×Int)}(h:l[k]?=some q):atI (l.map ptD) (k:Int)=some (ptD q):=zeh (by rw[Vah,h]; rfl)
theorem zqp {a b:TDS}{E:zcG}{dl:Ev}{S:Sto}(W:Ev→Sto→Prop)(ha:∀nx:Ev→Sto→Prop,(∀dl' S',W dl' S'→nx dl' S')→a { nx:=nx,rt:=E.rt,bk:=E.bk,ct:=E.ct } dl S)(hb:∀dl' S',W dl' S'→b E dl' S'):zcg a b E dl S:=ha _ hb
theorem znJ {S:Sto}{Q:DK}{xs:List D}(hq:Q (.int (xs.length:Nat)) S):irr zeo [.tup xs] S Q:=by
 rw[zf9]
 exact hq
theorem zmO {x:Int}(h:0≤x∧x≤3):x.natAbs≤12:=by omega
theorem zkz {a b c:TDS}{E:zcG}{dl:Ev}{S:Sto}(W:Ev→Sto→Prop)(ha:∀nx:Ev→Sto→Prop,(∀dl' S',W dl' S'→nx dl' S')→zcg a b { nx:=nx,rt:=E.rt,bk:=E.bk,ct:=E.ct } dl S)(hb:∀dl' S',W dl' S'→c E dl' S'):zcg a (zcg b c) E dl S:=ha _ hb
theorem zkS {n:Nat}{m g:Int}(h:Sz n m)(hg:1≤g):Sz n (-(-m/g)):=(h.neg.div hg).neg
theorem zif {n:Nat}{a b:Int}(ha:Sz n a)(hb:Sz n b):Sz n (min a b):=by unfold Sz at *; omega
theorem zjb {n:Nat}{a b:Int}(ha:Sz n a)(hb:Sz n b):Sz n (max a b):=by unfold Sz at *; omega
theorem Nd.fw_sz {vs bs:List (Int×Int)}{g:Int}{B:Nat}(h1:Spn B vs)(h2:Spn B bs)(hg:1≤g∧g≤1000000)(hB:60≤B):∀v:Nd,v.ok vs.length bs.length→Sz (B*6+1) (v.fw vs bs g).1∧Sz (B*6+1) (v.fw vs bs g).2
 | .number t b,ok=>by
  have z:Sz 52 (t*g):=(Sz.of (n:=31) (10^9) ok.2.2).mul (Sz.of (n:=21) (10^6) (show g.natAbs≤_ by omega))
  exact⟨(z.div ok.1.1).mono (by omega),(zkS z ok.1.1).mono (by omega)⟩
 | .unknown k,ok=>⟨(h2.at ok).2.1.mono (by omega),(h2.at ok).2.2.mono (by omega)⟩
 | .plus i j,ok=>⟨((h1.at ok.1).2.1.add (h1.at ok.2).2.1).mono (by omega),((h1.at ok.1).2.2.add (h1.at ok.2).2.2).mono (by omega)⟩
 | .minus i j,ok=>⟨((h1.at ok.1).2.1.sub (h1.at ok.2).2.2).mono (by omega),((h1.at ok.1).2.2.sub (h1.at ok.2).2.1).mono (by omega)⟩
 | .times i j,ok=>by
  have a:=h1.at ok.1
  have b:=h1.at ok.2
  have l:Sz (B+B) (mn4 (gt vs i).1 (gt vs i).2 (gt vs j).1 (gt vs j).2):=zif (zif (a.2.1.mul b.2.1) (a.2.1.mul b.2.2)) (zif (a.2.2.mul b.2.1) (a.2.2.mul b.2.2))
  have u:Sz (B+B) (mx4 (gt vs i).1 (gt vs i).2 (gt vs j).1 (gt vs j).2):=zjb (zjb (a.2.1.mul b.2.1) (a.2.1.mul b.2.2)) (zjb (a.2.2.mul b.2.1) (a.2.2.mul b.2.2))
  exact⟨(l.div hg.1).mono (by omega),(zkS u hg.1).mono (by omega)⟩
 | .power i n,ok=>by
  have a:=h1.at ok.1
  have gp:(1:Int)≤g^(n.toNat-1):=Vau (by omega)
  have hn:B*n.toNat+1≤B*6+1:=by
   have:=Nat.mul_le_mul_left B (show n.toNat≤6 by have:=ok.2.2; omega)
   omega
  have p1:Sz (B*6+1) ((gt vs i).1^n.toNat):=(a.2.1.pow _).mono hn
  have p2:Sz (B*6+1) ((gt vs i).2^n.toNat):=(a.2.2.pow _).mono hn
  have l:Sz (B*6+1) (zb1 (gt vs i).1 (gt vs i).2 n.toNat):=by
   unfold zb1
   split
   ·exact(Sz.of (n:=1) 0 (by decide)).mono (by omega)
   ·exact zif p1 p2
  have u:Sz (B*6+1) (zcb (gt vs i).1 (gt vs i).2 n.toNat):=zjb p1 p2
  exact⟨l.div gp,zkS u gp⟩
theorem Spn.set {B:Nat}{vs:List (Int×Int)}(h:Spn B vs){k:Nat}{u:Int}(hu:Sz B u):Spn B (vs.set k (u,u)):=λp hp=>by
 rcases List.mem_or_eq_of_mem_set hp with e | e
 ·exact h p e
 ·subst e; exact⟨Vaw _,hu,hu⟩
theorem zdB (vs:List (Int×Int))(k:Nat)(p:Int×Int):(vs.map frD).set k (frD p)=(vs.set k p).map frD:=(List.map_set).symm
theorem zdG {n:Nat}{i:Int}(h:inR n i):ixN n i=some i.toNat:=by
 obtain⟨h0,h1⟩:=h
 unfold ixN
 split <;> first | omega | rfl | (split <;> first | omega | rfl)
theorem zdr {x0 x1 k:Int}(h:x0≤x1)(s0:Sz 51 x0)(s1:Sz 51 x1)(k0:0≤k)(k8:k≤8):IntMulOk (x1-x0) k∧Sz 60 (x0+(x1-x0)*k/8):=by
 have sk:Sz 4 k:=Sz.of 8 (by omega)
 have sd:Sz 52 (x1-x0):=s1.sub s0
 exact⟨zaD sd sk,(s0.add ((sd.mul sk).div (j:=8) (by decide))).mono (by decide)⟩
def Nd.wt (ws:List Nat):Nd→Nat
 | .number _ _=>1
 | .unknown _=>1
 | .plus i j=>ws.getD i.toNat 0+ws.getD j.toNat 0
 | .minus i j=>ws.getD i.toNat 0+ws.getD j.toNat 0
 | .times i j=>ws.getD i.toNat 0+ws.getD j.toNat 0
 | .power i n=>n.toNat*ws.getD i.toNat 0
structure zb2 (q:Int)(ns:List Nd)(ws:List Nat):Prop where
 len:ws.length=ns.length
 ok:∀(k:Nat) (v:Nd),ns[k]?=some v→v.ok k q∧ws.getD k 0=v.wt ws∧1≤v.wt ws∧v.wt ws≤16
theorem zb2.w1 {q:Int}{ns:List Nd}{ws:List Nat}(h:zb2 q ns ws){i:Int}(hi:inR ns.length i):1≤ws.getD i.toNat 0∧ws.getD i.toNat 0≤16:=by
 obtain⟨h0,h1⟩:=hi
 have hk:i.toNat<ns.length:=(by omega)
 obtain⟨_,e,a,b⟩:=h.ok i.toNat _ (VaB hk)
 omega
theorem zb2.w2 {q:Int}{ns:List Nd}{ws:List Nat}(h:zb2 q ns ws):∀v:Nd,v.ok ns.length q→1≤v.wt ws∧v.wt ws≤96
 | .number _ _,_=>⟨Vaa 1,show 1≤96 by decide⟩
 | .unknown _,_=>⟨Vaa 1,show 1≤96 by decide⟩
 | .plus i j,ok=>by have a:=h.w1 ok.1; have b:=h.w1 ok.2; simp only[Nd.wt]; omega
 | .minus i j,ok=>by have a:=h.w1 ok.1; have b:=h.w1 ok.2; simp only[Nd.wt]; omega
 | .times i j,ok=>by have a:=h.w1 ok.1; have b:=h.w1 ok.2; simp only[Nd.wt]; omega
 | .power i n,ok=>by
  have a:=h.w1 ok.1
  have n2:=ok.2.1
  have n6:=ok.2.2
  have m1:=Nat.mul_le_mul (show 1≤n.toNat by omega) a.1
  have m2:=Nat.mul_le_mul (show n.toNat≤6 by omega) a.2
  simp only[Nd.wt]
  omega
theorem zb2.take {q:Int}{ns:List Nd}{ws:List Nat}(h:zb2 q ns ws)(n:Nat):zb2 q (ns.take n) (ws.take n):=by
 have e:∀k:Nat,k<n→(ws.take n).getD k 0=ws.getD k 0:=λk hk=>by
  rw[VaC,VaC,List.getElem?_take_of_lt hk]
 refine⟨by simp[h.len],λk u hu=>?_⟩
 have hl:=(Vad.mp hu).1
 rw[VaQ] at hl
 have hk:k<n:=by omega
 rw[List.getElem?_take_of_lt hk] at hu
 obtain⟨a,b,c,d⟩:=h.ok k u hu
 have e2:u.wt (ws.take n)=u.wt ws:=by
  have f:∀i:Int,inR k i→(ws.take n).getD i.toNat 0=ws.getD i.toNat 0:=λi hi=>e _ (by have:=hi.1; have:=hi.2; omega)
  cases u with
  | number _ _=>rfl
  | unknown _=>rfl
  | plus i j=>show _+_=_+_; rw[f i a.1,f j a.2]
  | minus i j=>show _+_=_+_; rw[f i a.1,f j a.2]
  | times i j=>show _+_=_+_; rw[f i a.1,f j a.2]
  | power i m=>show _*_=_*_; rw[f i a.1]
 rw[e2,e k hk]
 exact⟨a,b,c,d⟩
theorem zcV {α:Type}{xs:List α}{k:Nat}{x:α}(h:xs[k]?=some x):xs.take (k+1)=xs.take k++[x]:=by rw[List.take_succ,h]; rfl
def SzW (ws:List Nat)(vs:List (Int×Int)):Prop:=∀(k:Nat) (p:Int×Int),vs[k]?=some p→p.1≤p.2∧Sz (60*ws.getD k 0-1) p.1∧Sz (60*ws.getD k 0-1) p.2
theorem SzW.at {ws:List Nat}{vs:List (Int×Int)}(h:SzW ws vs){i:Int}(hi:inR vs.length i):(gt vs i).1≤(gt vs i).2∧Sz (60*ws.getD i.toNat 0-1) (gt vs i).1∧Sz (60*ws.getD i.toNat 0-1) (gt vs i).2:=by
 obtain⟨h0,h1⟩:=hi
 have hk:i.toNat<vs.length:=by omega
 have e:gt vs i=vs[i.toNat]:=by simp[gt,hk]
 rw[e]
 exact h _ _ (VaB hk)
theorem Spn.of_w {ws:List Nat}{vs:List (Int×Int)}(h:SzW ws vs)(hw:∀k:Nat,k<vs.length→ws.getD k 0≤16):Spn 1000 vs:=λp hp=>by
 obtain⟨k,hk,e⟩:=List.mem_iff_getElem.mp hp
 obtain⟨a,b,c⟩:=h k p (by rw[VaB hk,e])
 have:=hw k hk
 exact⟨a,b.mono (by omega),c.mono (by omega)⟩
theorem zk7 {S T:Sto}{n:Nat}{o:Ob}(h:Pre S T)(hn:S.length≤n):Pre S (T.set n o):=λk u e=>by
 have hk:=(Vad.mp e).1
 rw[VaI (by omega)]
 exact h k u e
theorem zdu {S T:Sto}(h:Pre S T)(U:Sto):Pre S (T++U):=λk u e=>zay (h k u e)
theorem zqB {vs us:List (Int×Int)}{k:Nat}{i:Int}(h:inR k i)(hk:k≤vs.length):gt (vs++us) i=gt vs i:=by
 have:=h.1
 have:=h.2
 unfold gt
 rw[VaC,VaC,Var (by omega)]
theorem SzW.spn {ws:List Nat}{vs:List (Int×Int)}(h:SzW ws vs)(hw:∀k:Nat,k<vs.length→ws.getD k 0≤16):Spn 1000 vs:=Spn.of_w h hw
def Gd (B:Nat)(vs:List (Int×Int)):Prop:=∀p∈vs,1≤p.2∧Int.gcd p.1 p.2=1∧Sz B p.1∧Sz B p.2
theorem Gd.at {B:Nat}{vs:List (Int×Int)}(h:Gd B vs){i:Int}(hi:inR vs.length i):1≤(gt vs i).2∧Int.gcd (gt vs i).1 (gt vs i).2=1∧Sz B (gt vs i).1∧Sz B (gt vs i).2:=h _ (zlL hi)
theorem Gd.mono {B C:Nat}{vs:List (Int×Int)}(h:Gd B vs)(hc:B≤C):Gd C vs:=λp hp=>⟨(h p hp).1,(h p hp).2.1,(h p hp).2.2.1.mono hc,(h p hp).2.2.2.mono hc⟩
def Pz (B:Nat)(vs:List (Int×Int)):Prop:=∀p∈vs,1≤p.2∧Sz B p.1∧Sz B p.2
theorem Pz.at {B:Nat}{vs:List (Int×Int)}(h:Pz B vs){i:Int}(hi:inR vs.length i):1≤(gt vs i).2∧Sz B (gt vs i).1∧Sz B (gt vs i).2:=h _ (zlL hi)
def Nd.due (vs ps:List (Int×Int)):Nd→Int×Int
 | .number t b=>(t,b)
 | .unknown k=>gt ps k
 | .plus i j=>((gt vs i).1*(gt vs j).2+(gt vs j).1*(gt vs i).2,(gt vs i).2*(gt vs j).2)
 | .minus i j=>((gt vs i).1*(gt vs j).2-(gt vs j).1*(gt vs i).2,(gt vs i).2*(gt vs j).2)
 | .times i j=>((gt vs i).1*(gt vs j).1,(gt vs i).2*(gt vs j).2)
 | .power i n=>((gt vs i).1^n.toNat,(gt vs i).2^n.toNat)
def PzW (ws:List Nat)(vs:List (Int×Int)):Prop:=∀(k:Nat) (p:Int×Int),vs[k]?=some p→1≤p.2∧Sz (112*ws.getD k 0-2) p.1∧Sz (112*ws.getD k 0-2) p.2
theorem PzW.at {ws:List Nat}{vs:List (Int×Int)}(h:PzW ws vs){i:Int}(hi:inR vs.length i):1≤(gt vs i).2∧Sz (112*ws.getD i.toNat 0-2) (gt vs i).1∧Sz (112*ws.getD i.toNat 0-2) (gt vs i).2:=by
 obtain⟨h0,h1⟩:=hi
 have hk:i.toNat<vs.length:=by omega
 have e:gt vs i=vs[i.toNat]:=by simp[gt,hk]
 rw[e]
 exact h _ _ (VaB hk)
def zbF (ps:List (Int×Int))(ns:List Nd):List (Int×Int):=ns.foldl (λacc v=>acc++[v.due acc ps]) []
theorem zl0 (ps:List (Int×Int))(ns:List Nd)(v:Nd):zbF ps (ns++[v])=zbF ps ns++[v.due (zbF ps ns) ps]:=by
 unfold zbF
 rw[List.foldl_append]
 rfl
theorem zsB (ps:List (Int×Int))(ns:List Nd):(zbF ps ns).length=ns.length:=by
 have z:∀k,k≤ns.length→(zbF ps (ns.take k)).length=k:=λk=>by
  induction k with
  | zero=>intro _; rfl
  | succ k ih=>
   intro hk
   rw[zcV (VaB (show k<ns.length by omega)),zl0]
   simp[ih (by omega)]
 have y:=z ns.length (Vaa _)
 rwa [List.take_length] at y
theorem Pz.of_w {ws:List Nat}{vs:List (Int×Int)}(h:PzW ws vs)(hw:∀k:Nat,k<vs.length→ws.getD k 0≤16):Pz 1800 vs:=λp hp=>by
 obtain⟨k,hk,e⟩:=List.mem_iff_getElem.mp hp
 obtain⟨a,b,c⟩:=h k p (by rw[VaB hk,e])
 have:=hw k hk
 exact⟨a,b.mono (by omega),c.mono (by omega)⟩
def InW (g:Int)(vs ds:List (Int×Int)):Prop:=∀i:Int,inR ds.length i→(gt vs i).1*(gt ds i).2≤(gt ds i).1*g∧(gt ds i).1*g≤(gt vs i).2*(gt ds i).2
theorem znf (P:List (Int×Int))(ns:List Nd):∀ms:List Nd,∃r,zbF P (ns++ms)=zbF P ns++r
 | []=>⟨[],by rw[VaJ,VaJ]⟩
 | v::ms=>by
  obtain⟨r,e⟩:=znf P (ns++[v]) ms
  rw[List.append_assoc] at e
  refine⟨v.due (zbF P ns) P::r,?_⟩
  rw[show ns++v::ms=ns++([v]++ms) from rfl,e,zl0,List.append_assoc]
  rfl
theorem zrX {P:List (Int×Int)}{ns ms:List Nd}{i:Int}(h:inR ns.length i):gt (zbF P (ns++ms)) i=gt (zbF P ns) i:=by
 obtain⟨r,e⟩:=znf P ns ms
 rw[e]
 exact zqB (k:=ns.length) h (by rw[zsB]; exact Vaa _)
theorem zoA {ws us:List Nat}{i:Nat}(h:i<ws.length):(ws++us).getD i 0=ws.getD i 0:=by rw[VaC,VaC,Var h]
structure Gr (q a c:Nat)(S:Sto)(ns:List Nd)(ws:List Nat)(T:Sto)(ns':List Nd)(ws':List Nat):Prop where
 net:zb2 q ns' ws'
 pn:∃ms,ns'=ns++ms∧ms.length≤c
 pw:∃us,ws'=ws++us
 nd:T[a]?=some (.lst (ns'.map Nd.d))
 len:S.length≤T.length
 kp:∀(x:Nat) (o:Ob),x≠a→S[x]?=some o→T[x]?=some o
theorem Gr.refl {q a:Nat}{S:Sto}{ns:List Nd}{ws:List Nat}(net:zb2 q ns ws)(h:S[a]?=some (.lst (ns.map Nd.d))):Gr q a 0 S ns ws S ns ws:=⟨net,⟨[],by simp,by simp⟩,⟨[],by simp⟩,h,Vaa _,λ_ _ _ e=>e⟩
theorem Gr.trans {q a c d:Nat}{S T U:Sto}{ns ns' ns2:List Nd}{ws ws' ws2:List Nat}(h:Gr q a c S ns ws T ns' ws')(k:Gr q a d T ns' ws' U ns2 ws2):Gr q a (c+d) S ns ws U ns2 ws2:=by
 obtain⟨n1,⟨ms,rfl,l1⟩,⟨us,rfl⟩,a1,e1,k1⟩:=h
 obtain⟨n2,⟨ms2,rfl,l2⟩,⟨us2,rfl⟩,a2,e2,k2⟩:=k
 exact⟨n2,⟨ms++ms2,by rw[List.append_assoc],by rw[VaD]; omega⟩,⟨us++us2,by rw[List.append_assoc]⟩,a2,by omega,λx o hx e=>k2 x o hx (k1 x o hx e)⟩
theorem Gr.mono {q a c d:Nat}{S T:Sto}{ns ns':List Nd}{ws ws':List Nat}(h:Gr q a c S ns ws T ns' ws')(l:c≤d):Gr q a d S ns ws T ns' ws':=by
 obtain⟨n1,⟨ms,e,l1⟩,u,a1,e1,k1⟩:=h
 exact⟨n1,⟨ms,e,by omega⟩,u,a1,e1,k1⟩
theorem Gr.ln {q a c:Nat}{S T:Sto}{ns ns':List Nd}{ws ws':List Nat}(h:Gr q a c S ns ws T ns' ws'):ns.length≤ns'.length∧ns'.length≤ns.length+c:=by
 obtain⟨n1,⟨ms,rfl,l1⟩,_⟩:=h
 rw[VaD]
 omega
theorem Gr.wt {q a c:Nat}{S T:Sto}{ns ns':List Nd}{ws ws':List Nat}(h:Gr q a c S ns ws T ns' ws')(net:zb2 q ns ws){i:Nat}(hi:i<ns.length):ws'.getD i 0=ws.getD i 0:=by
 obtain⟨us,rfl⟩:=h.pw
 exact zoA (by rw[net.len]; exact hi)
theorem Gr.due {q a c:Nat}{S T:Sto}{ns ns':List Nd}{ws ws':List Nat}(h:Gr q a c S ns ws T ns' ws')(P:List (Int×Int)){i:Nat}(hi:i<ns.length):gt (zbF P ns') (i:Int)=gt (zbF P ns) (i:Int):=by
 obtain⟨ms,rfl,_⟩:=h.pn
 exact zrX ⟨by omega,by omega⟩
theorem Gr.put {q a c n:Nat}{S T:Sto}{ns ns':List Nd}{ws ws':List Nat}{o:Ob}(h:Gr q a c S ns ws T ns' ws')(ha:n≠a)(hn:S.length≤n):Gr q a c S ns ws (T.set n o) ns' ws':=by
 obtain⟨n1,pn,pw,a1,e1,k1⟩:=h
 refine⟨n1,pn,pw,zdi a1 ha,by rw[Vag]; exact e1,λx u hx e=>zdi (k1 x u hx e) ?_⟩
 have:=zd8 e
 omega
theorem Gr.push {q a:Nat}{S:Sto}{ns:List Nd}{ws:List Nat}(net:zb2 q ns ws)(h:S[a]?=some (.lst (ns.map Nd.d)))(U:Sto):Gr q a 0 S ns ws (S++U) ns ws:=⟨net,⟨[],by simp,by simp⟩,⟨[],by simp⟩,zay h,by simp,λ_ _ _ e=>zay e⟩
structure Zr (P:List (Int×Int))(ns:List Nd)(ws:List Nat)(w i:Nat):Prop where
 lt:i<ns.length
 wt:ws.getD i 0≤w
 due:(gt (zbF P ns) (i:Int)).1=0
theorem Zr.up {P:List (Int×Int)}{q a c w i:Nat}{S T:Sto}{ns ns':List Nd}{ws ws':List Nat}(z:Zr P ns ws w i)(h:Gr q a c S ns ws T ns' ws')(net:zb2 q ns ws):Zr P ns' ws' w i:=⟨by have:=h.ln; have:=z.lt; omega,by rw[h.wt net z.lt]; exact z.wt,by rw[h.due P z.lt]; exact z.due⟩
def Ans (lo hi y0 y1 p q:Int):Prop:=(p*y0≤hi*q∨p*y1≤hi*q)∧(lo*q≤p*y0∨lo*q≤p*y1)
structure zaM (x0 x1:Int)(V Sp:Int→Int→Prop)(L U:Int):Prop where
 all:∀p q,0<q→x0*q≤p→p≤x1*q→V p q→L*q≤p∧p≤U*q
 lo:∃p q,Sp p q∧0<q∧x0*q≤p∧p≤x1*q∧V p q∧p<(L+1)*q
 hi:∃p q,Sp p q∧0<q∧x0*q≤p∧p≤x1*q∧V p q∧(U-1)*q<p
theorem dl (m:Int){g:Int}(hg:0<g):m/g*g≤m∧m<(m/g+1)*g:=by
 have h1:=Int.emod_add_mul_ediv m g
 have h2:=Int.emod_nonneg m (show g≠0 by omega)
 have h3:=Int.emod_lt_of_pos m hg
 have e:(m/g+1)*g=g*(m/g)+g:=by grind
 have e2:m/g*g=g*(m/g):=VaW _ _
 omega
theorem dh (m:Int){g:Int}(hg:0<g):m≤-(-m/g)*g∧(-(-m/g)-1)*g<m:=by
 obtain⟨h1,h2⟩:=dl (-m) hg
 have e1:-(-m/g)*g=-(-m/g*g):=by rw[Vai]
 have e2:(-(-m/g)-1)*g=-((-m/g+1)*g):=by grind
 omega
theorem mlr {a b c:Int}(h:a≤b)(hc:0≤c):a*c≤b*c:=VaF h hc
theorem mll {a b c:Int}(h:a≤b)(hc:0≤c):c*a≤c*b:=Int.mul_le_mul_of_nonneg_left h hc
theorem can {a b c:Int}(h:a*c≤b*c)(hc:0<c):a≤b:=Int.le_of_mul_le_mul_right h hc
structure Low (x0 x1 lo hi lb hb L:Int):Prop where
 all:∀p q,0<q→x0*q≤p→lo*q≤p*lb→L*q≤p
 ex:∃p q,(p=x0∧q=1∨p=lo∧q=lb)∧0<q∧x0*q≤p∧p≤x1*q∧(lo*q≤p*lb∧p*hb≤hi*q)∧p<(L+1)*q
theorem zfN {x0 x1 lo hi lb hb L f:Int}(hx:x0≤x1)(hl:0≤lb)(hh:0≤hb)(l0:lb=0→lo≤0)(h0:hb=0→0≤hi)(cr:lo*hb≤hi*lb)(ef:lb≠0→f=lo/lb)(hc:lb≠0→-(-lo/lb)≤x1)(hr:hb≠0→x0≤hi/hb)
  (eL:L=x0∧(lb=0∨f≤x0)∨lb≠0∧L=f∧x0≤f):Low x0 x1 lo hi lb hb L:=by
 have xh:x0*hb≤hi:=by
  by_cases z:hb=0
  ·subst z; rw[VaL]; exact h0 rfl
  ·exact VaX (mlr (hr z) hh) (dl hi (by omega)).1
 refine⟨λp q hq h1 h2=>?_,?_⟩
 ·rcases eL with ⟨rfl,_⟩ | ⟨z,rfl,_⟩
  ·exact h1
  ·have e:=ef z
   subst e
   have d:=mlr (dl lo (show 0<lb by omega)).1 (Vaf hq)
   have e:lo/lb*lb*q=lo/lb*q*lb:=by grind
   exact can (show lo/lb*q*lb≤p*lb by omega) (by omega)
 ·by_cases z:lb=0
  ·refine⟨x0,1,.inl ⟨rfl,rfl⟩,by omega,by omega,by omega,⟨?_,by omega⟩,?_⟩
   ·have:=l0 z
    subst z; rw[VaL]; omega
   ·rcases eL with ⟨rfl,_⟩ | ⟨z',_⟩
    ·omega
    ·exact absurd z z'
  ·have lp:0<lb:=by omega
   obtain⟨d1,d2⟩:=dl lo lp
   have e:=ef z
   subst e
   have hL:lo/lb≤L∧x0≤L:=by
    rcases eL with ⟨rfl,z' | z'⟩ | ⟨_,rfl,z'⟩ <;> omega
   by_cases c:lo≤x0*lb
   ·exact⟨x0,1,.inl ⟨rfl,rfl⟩,by omega,by omega,by omega,⟨by omega,by omega⟩,by omega⟩
   ·refine⟨lo,lb,.inr ⟨rfl,rfl⟩,lp,by omega,?_,⟨Vaw _,cr⟩,?_⟩
    ·exact VaX (dh lo lp).1 (mlr (hc z) hl)
    ·exact Int.lt_of_lt_of_le d2 (mlr (by omega) hl)
theorem zmg {x1 lo lb p q:Int}(hq:0<q)(lp:0<lb)(h:x1 < -(-lo/lb))(hp:p≤x1*q)(hv:lo*q≤p*lb):False:=by
 have d:=(dh lo lp).2
 have h1:x1*lb≤(-(-lo/lb)-1)*lb:=mlr (by omega) (Vaf lp)
 have h2:p*lb≤x1*q*lb:=mlr hp (Vaf lp)
 have h3:x1*lb*q<lo*q:=Int.mul_lt_mul_of_pos_right (by omega) hq
 have e:x1*lb*q=x1*q*lb:=by grind
 omega
theorem zfP {lo hi c d p q:Int}(h0:0≤c)(hcd:c≤d)(hd:0<d)(hq:0<q):Ans lo hi c d p q↔lo*q≤p*(if lo > 0 then d else c)∧p*(if hi<0 then d else c)≤hi*q:=by
 unfold Ans
 have sl:lo > 0→0<lo*q:=λh=>Int.mul_pos h hq
 have sl':¬ lo > 0→lo*q≤0:=λh=>by
  have:=mlr (show lo≤0 by omega) (Vaf hq)
  omega
 have sh:hi<0→hi*q<0:=λh=>by
  have:=Int.mul_lt_mul_of_pos_right h hq
  omega
 have sh':¬ hi<0→0≤hi*q:=λh=>Van (by omega) (Vaf hq)
 by_cases z:0≤p
 ·have a1:=mll hcd z
  have a2:=Van z h0
  split <;> split <;> omega
 ·have b1:=mll hcd (show 0≤-p by omega)
  have b2:=Van (show 0≤-p by omega) h0
  simp only[Vai] at b1 b2
  split <;> split <;> omega
structure zbB (lo hi x0 x1 c d:Int):Prop where
 hz:lo≤hi
 hx:x0≤x1
 h0:0≤c
 hcd:c≤d
 hd:0<d
abbrev zaO (lo c d:Int):Int:=if lo > 0 then d else c
abbrev zaL (hi c d:Int):Int:=if hi<0 then d else c
section
variable {lo hi x0 x1 c d:Int}
theorem zbB.cross (h:zbB lo hi x0 x1 c d):lo*zaL hi c d≤hi*zaO lo c d:=by
 obtain⟨hz,hx,h0,hcd,hd⟩:=h
 unfold zaL zaO
 split <;> split
 ·omega
 ·have a1:=mlr hz h0
  have a2:=mll hcd (show 0≤-lo by omega)
  simp only[Vai] at a2
  omega
 ·have a1:=mlr hz h0
  have a2:=mll hcd (show 0≤hi by omega)
  omega
 ·exact mlr hz h0
theorem zbB.l (h:zbB lo hi x0 x1 c d):0≤zaO lo c d∧(zaO lo c d=0→lo≤0):=by
 obtain⟨hz,hx,h0,hcd,hd⟩:=h
 unfold zaO
 split <;> omega
theorem zbB.h (h:zbB lo hi x0 x1 c d):0≤zaL hi c d∧(zaL hi c d=0→0≤hi):=by
 obtain⟨hz,hx,h0,hcd,hd⟩:=h
 unfold zaL
 split <;> omega
theorem zbB.none1 (h:zbB lo hi x0 x1 c d)(n:zaO lo c d≠0)(e:x1 < -(-lo/zaO lo c d)):∀p q,0<q→x0*q≤p→p≤x1*q→¬ Ans lo hi c d p q:=λp q hq _ h2 hv=>
 zmg hq (by have:=h.l.1; omega) e h2 ((zfP h.h0 h.hcd h.hd hq).mp hv).1
theorem zbB.none2 (h:zbB lo hi x0 x1 c d)(n:zaL hi c d≠0)(e:hi/zaL hi c d<x0):∀p q,0<q→x0*q≤p→p≤x1*q→¬ Ans lo hi c d p q:=λp q hq h1 _ hv=>by
 have v:=((zfP h.h0 h.hcd h.hd hq).mp hv).2
 refine zmg (x1:=-x0) (lo:=-hi) (lb:=zaL hi c d) (p:=-p) hq (by have:=h.h.1; omega) (by rw[VaR]; omega) (by rw[Vai]; omega) ?_
 show -hi*q≤-p*zaL hi c d
 rw[Vai,Vai]
 exact Int.neg_le_neg v
def zbI (lo hi x0 x1 c d p q:Int):Prop:=(p=x0∧q=1)∨(p=x1∧q=1)∨((p=lo∨p=hi)∧(q=c∨q=d))
theorem zbB.some (h:zbB lo hi x0 x1 c d){L U:Int}(hc:zaO lo c d≠0→-(-lo/zaO lo c d)≤x1)(hr:zaL hi c d≠0→x0≤hi/zaL hi c d)
  (eL:L=x0∧(zaO lo c d=0∨lo/zaO lo c d≤x0)∨zaO lo c d≠0∧L=lo/zaO lo c d∧x0≤lo/zaO lo c d)
  (eU:U=x1∧(zaL hi c d=0∨x1≤-(-hi/zaL hi c d))∨zaL hi c d≠0∧U=-(-hi/zaL hi c d)∧-(-hi/zaL hi c d)≤x1):zaM x0 x1 (Ans lo hi c d) (zbI lo hi x0 x1 c d) L U:=by
 obtain⟨l1,l2⟩:=h.l
 obtain⟨h1,h2⟩:=h.h
 have cr:=h.cross
 have A:=zfN h.hx l1 h1 l2 h2 cr (λ_=>rfl) hc hr eL
 have B:=zfN (x0:=-x1) (x1:=-x0) (lo:=-hi) (hi:=-lo) (lb:=zaL hi c d) (hb:=zaO lo c d) (L:=-U) (f:=-hi/zaL hi c d) (by have:=h.hx; omega) h1 l1 (λz=>by have:=h2 z; omega) (λz=>by have:=l2 z; omega)
  (by rw[Vai,Vai]; exact Int.neg_le_neg cr) (λ_=>rfl) (λz=>by have:=hr z; rw[VaR]; omega) (λz=>by have:=hc z; omega) (by omega)
 refine⟨λp q hq p1 p2 hv=>?_,?_,?_⟩
 ·obtain⟨v1,v2⟩:=(zfP h.h0 h.hcd h.hd hq).mp hv
  refine⟨A.all p q hq p1 v1,?_⟩
  have:=B.all (-p) q hq (by rw[Vai]; omega) (by rw[Vai,Vai]; exact Int.neg_le_neg v2)
  rw[Vai] at this
  omega
 ·obtain⟨p,q,hs,hq,p1,p2,hv,t⟩:=A.ex
  refine⟨p,q,?_,hq,p1,p2,(zfP h.h0 h.hcd h.hd hq).mpr hv,t⟩
  unfold zbI
  unfold zaO at hs
  split at hs <;> omega
 ·obtain⟨p,q,hs,hq,p1,p2,hv,t⟩:=B.ex
  rw[Vai] at p1 p2
  have hv':lo*q≤-p*zaO lo c d∧-p*zaL hi c d≤hi*q:=by
   simp only[Vai] at hv ⊢
   exact⟨by omega,by omega⟩
  refine⟨-p,q,?_,hq,by omega,by omega,(zfP h.h0 h.hcd h.hd hq).mpr hv',?_⟩
  ·unfold zbI
   unfold zaL at hs
   split at hs <;> omega
  ·have e:(U-1)*q=-((-U+1)*q):=by grind
   omega
end
theorem zaM.mono {x0 x1 L U:Int}{V V' Sp Sp':Int→Int→Prop}(h:zaM x0 x1 V Sp L U)(hv:∀p q,0<q→(V p q↔V' p q))(hs:∀p q,0<q→Sp p q→Sp' p q):zaM x0 x1 V' Sp' L U:=by
 refine⟨λp q hq h1 h2 v=>h.all p q hq h1 h2 ((hv p q hq).mpr v),?_,?_⟩
 ·obtain⟨p,q,s,hq,h1,h2,v,t⟩:=h.lo
  exact⟨p,q,hs p q hq s,hq,h1,h2,(hv p q hq).mp v,t⟩
 ·obtain⟨p,q,s,hq,h1,h2,v,t⟩:=h.hi
  exact⟨p,q,hs p q hq s,hq,h1,h2,(hv p q hq).mp v,t⟩
abbrev NoV (x0 x1:Int)(V:Int→Int→Prop):Prop:=∀p q,0<q→x0*q≤p→p≤x1*q→¬ V p q
theorem zaM.left {x0 x1 L U:Int}{V V' Sp:Int→Int→Prop}(h:zaM x0 x1 V Sp L U)(n:NoV x0 x1 V'):zaM x0 x1 (λp q=>V p q∨V' p q) Sp L U:=by
 refine⟨λp q hq h1 h2 v=>h.all p q hq h1 h2 (v.resolve_right (n p q hq h1 h2)),?_,?_⟩
 ·obtain⟨p,q,s,hq,h1,h2,v,t⟩:=h.lo
  exact⟨p,q,s,hq,h1,h2,.inl v,t⟩
 ·obtain⟨p,q,s,hq,h1,h2,v,t⟩:=h.hi
  exact⟨p,q,s,hq,h1,h2,.inl v,t⟩
theorem zaM.right {x0 x1 L U:Int}{V V' Sp:Int→Int→Prop}(h:zaM x0 x1 V' Sp L U)(n:NoV x0 x1 V):zaM x0 x1 (λp q=>V p q∨V' p q) Sp L U:=by
 refine⟨λp q hq h1 h2 v=>h.all p q hq h1 h2 (v.resolve_left (n p q hq h1 h2)),?_,?_⟩
 ·obtain⟨p,q,s,hq,h1,h2,v,t⟩:=h.lo
  exact⟨p,q,s,hq,h1,h2,.inr v,t⟩
 ·obtain⟨p,q,s,hq,h1,h2,v,t⟩:=h.hi
  exact⟨p,q,s,hq,h1,h2,.inr v,t⟩
theorem zaM.both {x0 x1 L U L' U' l u:Int}{V V' Sp Sp':Int→Int→Prop}(h:zaM x0 x1 V Sp L U)(h':zaM x0 x1 V' Sp' L' U')(el:l=L∧L≤L'∨l=L'∧L'≤L)(eu:u=U∧U'≤U∨u=U'∧U≤U'):zaM x0 x1 (λp q=>V p q∨V' p q) (λp q=>Sp p q∨Sp' p q) l u:=by
 refine⟨λp q hq h1 h2 v=>?_,?_,?_⟩
 ·have hq':=Vaf hq
  rcases v with v | v
  ·obtain⟨a,b⟩:=h.all p q hq h1 h2 v
   exact⟨VaX (mlr (by omega) hq') a,VaX b (mlr (by omega) hq')⟩
  ·obtain⟨a,b⟩:=h'.all p q hq h1 h2 v
   exact⟨VaX (mlr (by omega) hq') a,VaX b (mlr (by omega) hq')⟩
 ·rcases el with ⟨rfl,_⟩ | ⟨rfl,_⟩
  ·obtain⟨p,q,s,hq,h1,h2,v,t⟩:=h.lo
   exact⟨p,q,.inl s,hq,h1,h2,.inl v,t⟩
  ·obtain⟨p,q,s,hq,h1,h2,v,t⟩:=h'.lo
   exact⟨p,q,.inr s,hq,h1,h2,.inr v,t⟩
 ·rcases eu with ⟨rfl,_⟩ | ⟨rfl,_⟩
  ·obtain⟨p,q,s,hq,h1,h2,v,t⟩:=h.hi
   exact⟨p,q,.inl s,hq,h1,h2,.inl v,t⟩
  ·obtain⟨p,q,s,hq,h1,h2,v,t⟩:=h'.hi
   exact⟨p,q,.inr s,hq,h1,h2,.inr v,t⟩
theorem zaM.le {x0 x1 L U:Int}{V Sp:Int→Int→Prop}(h:zaM x0 x1 V Sp L U):L≤U:=by
 obtain⟨p,q,s,hq,h1,h2,v,t⟩:=h.lo
 obtain⟨a,b⟩:=h.all p q hq h1 h2 v
 exact can (show L*q≤U*q by omega) hq
theorem zaM.within {x0 x1 L U:Int}{V Sp:Int→Int→Prop}(h:zaM x0 x1 V Sp L U):x0≤L∧U≤x1:=by
 constructor
 ·obtain⟨p,q,s,hq,h1,h2,v,t⟩:=h.lo
  have:=Int.lt_of_mul_lt_mul_right (show x0*q<(L+1)*q by omega) (Vaf hq)
  omega
 ·obtain⟨p,q,s,hq,h1,h2,v,t⟩:=h.hi
  have:=Int.lt_of_mul_lt_mul_right (show (U-1)*q<x1*q by omega) (Vaf hq)
  omega
abbrev tur (t e:Int):Int×Int:=(if e<0 then -t else t,if e<0 then -e else e)
def zdN (lo hi e:Int):List (Int×Int):=if e=0 then [] else [tur lo e,tur hi e]
def zlr (lo hi x0 x1 y0 y1:Int):List (Int×Int):=[(x0,1),(x1,1)]++zdN lo hi y0++zdN lo hi y1
abbrev SpY (lo hi x0 x1 y0 y1 p q:Int):Prop:=(p,q)∈zlr lo hi x0 x1 y0 y1
theorem zia {lo hi e p q:Int}:(p,q)∈zdN lo hi e↔e≠0∧((p,q)=tur lo e∨(p,q)=tur hi e):=by
 unfold zdN
 split
 ·simp[*]
 ·rename_i h
  simp[h]
theorem zjl {lo hi x0 x1 y0 y1 p q:Int}:(p,q)∈zlr lo hi x0 x1 y0 y1↔(p=x0∧q=1)∨(p=x1∧q=1)∨(p,q)∈zdN lo hi y0∨(p,q)∈zdN lo hi y1:=by
 unfold zlr
 simp[VaH,or_assoc]
abbrev mx0 (a:Int):Int:=if 0 > a then 0 else a
theorem zdH {lo hi y0 y1 p q:Int}(hz:lo≤hi)(hy:y0≤y1)(nb:¬ ((y0≤0∧0≤y1)∧lo≤0∧0≤hi))(hq:0<q):
  Ans lo hi y0 y1 p q↔(y1 > 0∧Ans lo hi (mx0 y0) y1 p q)∨(y0<0∧Ans (-hi) (-lo) (mx0 (-y1)) (-y0) p q):=by
 unfold Ans mx0
 have sl:lo > 0→0<lo*q:=λh=>Int.mul_pos h hq
 have sl':¬ lo > 0→lo*q≤0:=λh=>by
  have:=mlr (show lo≤0 by omega) (Vaf hq)
  omega
 have sh:hi<0→hi*q<0:=λh=>by
  have:=Int.mul_lt_mul_of_pos_right h hq
  omega
 have sh':¬ hi<0→0≤hi*q:=λh=>Van (by omega) (Vaf hq)
 have zz:=mlr hz (Vaf hq)
 have f:∀y:Int,(0≤p→0≤y→0≤p*y)∧(0≤p→y≤0→p*y≤0)∧(p≤0→0≤y→p*y≤0)∧(p≤0→y≤0→0≤p*y):=λy=>
  ⟨Van,Int.mul_nonpos_of_nonneg_of_nonpos,Int.mul_nonpos_of_nonpos_of_nonneg,Int.mul_nonneg_of_nonpos_of_nonpos⟩
 obtain⟨f1,f2,f3,f4⟩:=f y0
 obtain⟨g1,g2,g3,g4⟩:=f y1
 simp only[VaM,Vai]
 by_cases c1:0 > y0
 ·by_cases c2:0 > -y1
  ·rw[if_pos c1,if_pos c2,VaL]
   omega
  ·rw[if_pos c1,if_neg c2,VaL,VaM]
   omega
 ·by_cases c2:0 > -y1
  ·rw[if_neg c1,if_pos c2,VaL]
   omega
  ·rw[if_neg c1,if_neg c2,VaM]
   have e0:y0=0:=by omega
   have e1:y1=0:=by omega
   subst e0 e1
   simp only[VaL]
   omega
theorem zlF {lo hi x0 x1 y0 y1 p q:Int}(hy:y0≤y1)(hq:0<q)(h:zbI lo hi x0 x1 (mx0 y0) y1 p q):SpY lo hi x0 x1 y0 y1 p q:=by
 unfold SpY
 rw[zjl,zia,zia]
 simp only[tur,Prod.mk.injEq]
 rcases h with h | h | ⟨h1,h2⟩
 ·exact .inl h
 ·exact .inr (.inl h)
 ·rcases h2 with e | e
  ·have c:¬ 0 > y0:=λc=>by rw[mx0,if_pos c] at e; omega
   rw[mx0,if_neg c] at e
   subst e
   refine .inr (.inr (.inl ⟨by omega,?_⟩))
   rw[if_neg (by omega),if_neg (by omega),if_neg (by omega)]
   omega
  ·subst e
   refine .inr (.inr (.inr ⟨by omega,?_⟩))
   rw[if_neg (by omega),if_neg (by omega),if_neg (by omega)]
   omega
theorem zlh {lo hi x0 x1 y0 y1 p q:Int}(hy:y0≤y1)(hq:0<q)(h:zbI (-hi) (-lo) x0 x1 (mx0 (-y1)) (-y0) p q):SpY lo hi x0 x1 y0 y1 p q:=by
 unfold SpY
 rw[zjl,zia,zia]
 simp only[tur,Prod.mk.injEq]
 rcases h with h | h | ⟨h1,h2⟩
 ·exact .inl h
 ·exact .inr (.inl h)
 ·rcases h2 with e | e
  ·have c:¬ 0 > -y1:=λc=>by rw[mx0,if_pos c] at e; omega
   rw[mx0,if_neg c] at e
   subst e
   refine .inr (.inr (.inr ⟨by omega,?_⟩))
   rw[if_pos (by omega),if_pos (by omega),if_pos (by omega)]
   omega
  ·subst e
   refine .inr (.inr (.inl ⟨by omega,?_⟩))
   rw[if_pos (by omega),if_pos (by omega),if_pos (by omega)]
   omega
abbrev zdm (lo hi x0 x1 y0 y1 L U:Int):Prop:=zaM x0 x1 (Ans lo hi y0 y1) (SpY lo hi x0 x1 y0 y1) L U
section
variable {lo hi x0 x1 y0 y1 L U L' U' l u:Int}
theorem zsJ (hx:x0≤x1)(hy:y0≤0∧0≤y1)(hz:lo≤0∧0≤hi):zdm lo hi x0 x1 y0 y1 x0 x1:=by
 have v:∀p:Int,Ans lo hi y0 y1 p 1:=λp=>by
  unfold Ans
  by_cases c:0≤p
  ·have:=Int.mul_nonpos_of_nonneg_of_nonpos c hy.1
   have:=Van c hy.2
   omega
  ·have:=Int.mul_nonneg_of_nonpos_of_nonpos (show p≤0 by omega) hy.1
   have:=Int.mul_nonpos_of_nonpos_of_nonneg (show p≤0 by omega) hy.2
   omega
 refine⟨λp q hq h1 h2 _=>⟨h1,h2⟩,⟨x0,1,zjl.mpr (.inl ⟨rfl,rfl⟩),by omega,by omega,by omega,v _,by omega⟩,⟨x1,1,zjl.mpr (.inr (.inl ⟨rfl,rfl⟩)),by omega,by omega,by omega,v _,by omega⟩⟩
variable (hz:lo≤hi)(hy:y0≤y1)(nb:¬ ((y0≤0∧0≤y1)∧lo≤0∧0≤hi))
abbrev zdA (lo hi y0 y1:Int):Int→Int→Prop:=Ans lo hi (mx0 y0) y1
abbrev zdq (lo hi y0 y1:Int):Int→Int→Prop:=Ans (-hi) (-lo) (mx0 (-y1)) (-y0)
include hz hy nb
theorem zr6 (c1:¬ y1 > 0)(c2:¬ y0<0):NoV x0 x1 (Ans lo hi y0 y1):=λp q hq _ _ v=>by
 rcases (zdH hz hy nb hq).mp v with ⟨h,_⟩ | ⟨h,_⟩
 ·exact c1 h
 ·exact c2 h
theorem zqx (h:NoV x0 x1 (zdA lo hi y0 y1))(c2:¬ y0<0):NoV x0 x1 (Ans lo hi y0 y1):=λp q hq h1 h2 v=>by
 rcases (zdH hz hy nb hq).mp v with ⟨_,z⟩ | ⟨z,_⟩
 ·exact h p q hq h1 h2 z
 ·exact c2 z
theorem zsK (c1:¬ y1 > 0)(h:NoV x0 x1 (zdq lo hi y0 y1)):NoV x0 x1 (Ans lo hi y0 y1):=λp q hq h1 h2 v=>by
 rcases (zdH hz hy nb hq).mp v with ⟨z,_⟩ | ⟨_,z⟩
 ·exact c1 z
 ·exact h p q hq h1 h2 z
theorem zqg (h1:NoV x0 x1 (zdA lo hi y0 y1))(h2:NoV x0 x1 (zdq lo hi y0 y1)):NoV x0 x1 (Ans lo hi y0 y1):=λp q hq a b v=>by
 rcases (zdH hz hy nb hq).mp v with ⟨_,z⟩ | ⟨_,z⟩
 ·exact h1 p q hq a b z
 ·exact h2 p q hq a b z
theorem zpY (c1:y1 > 0)(c2:¬ y0<0)(h:zaM x0 x1 (zdA lo hi y0 y1) (zbI lo hi x0 x1 (mx0 y0) y1) L U):zdm lo hi x0 x1 y0 y1 L U:=
 h.mono (λp q hq=>by rw[zdH hz hy nb hq]; exact⟨λz=>.inl ⟨c1,z⟩,λz=>z.elim (λz=>z.2) λz=>absurd z.1 c2⟩) λp q hq s=>zlF hy hq s
theorem zrg (c1:¬ y1 > 0)(c2:y0<0)(h:zaM x0 x1 (zdq lo hi y0 y1) (zbI (-hi) (-lo) x0 x1 (mx0 (-y1)) (-y0)) L U):zdm lo hi x0 x1 y0 y1 L U:=
 h.mono (λp q hq=>by rw[zdH hz hy nb hq]; exact⟨λz=>.inr ⟨c2,z⟩,λz=>z.elim (λz=>absurd z.1 c1) λz=>z.2⟩) λp q hq s=>zlh hy hq s
theorem zkW (c1:y1 > 0)(c2:y0<0):∀p q,0<q→(zdA lo hi y0 y1 p q∨zdq lo hi y0 y1 p q↔Ans lo hi y0 y1 p q):=λp q hq=>by
 rw[zdH hz hy nb hq]
 exact⟨λz=>z.elim (λz=>.inl ⟨c1,z⟩) λz=>.inr ⟨c2,z⟩,λz=>z.elim (λz=>.inl z.2) λz=>.inr z.2⟩
theorem zpr (c1:y1 > 0)(c2:y0<0)(h:zaM x0 x1 (zdA lo hi y0 y1) (zbI lo hi x0 x1 (mx0 y0) y1) L U)(n:NoV x0 x1 (zdq lo hi y0 y1)):zdm lo hi x0 x1 y0 y1 L U:=
 (h.left n).mono (zkW hz hy nb c1 c2) λp q hq s=>zlF hy hq s
theorem zsi (c1:y1 > 0)(c2:y0<0)(n:NoV x0 x1 (zdA lo hi y0 y1))(h:zaM x0 x1 (zdq lo hi y0 y1) (zbI (-hi) (-lo) x0 x1 (mx0 (-y1)) (-y0)) L U):zdm lo hi x0 x1 y0 y1 L U:=
 (h.right n).mono (zkW hz hy nb c1 c2) λp q hq s=>zlh hy hq s
theorem zoq (c1:y1 > 0)(c2:y0<0)(h:zaM x0 x1 (zdA lo hi y0 y1) (zbI lo hi x0 x1 (mx0 y0) y1) L U)(h':zaM x0 x1 (zdq lo hi y0 y1) (zbI (-hi) (-lo) x0 x1 (mx0 (-y1)) (-y0)) L' U'):zdm lo hi x0 x1 y0 y1 (if L'<L then L' else L) (if U' > U then U' else U):=
 (h.both h' (by split <;> omega) (by split <;> omega)).mono (zkW hz hy nb c1 c2) λp q hq s=>s.elim (zlF hy hq) (zlh hy hq)
end
theorem zsd {lo hi x0 x1 c d l0 l1 h0 h1:Int}(h:zbB lo hi x0 x1 c d)(hl:zaO lo c d=0∧l0=x0∧l1=x0∨zaO lo c d≠0∧l0=lo/zaO lo c d∧l1=-(-lo/zaO lo c d))
  (hh:zaL hi c d=0∧h0=x1∧h1=x1∨zaL hi c d≠0∧h0=hi/zaL hi c d∧h1=-(-hi/zaL hi c d)):
  (l1 > x1∨h0<x0→NoV x0 x1 (Ans lo hi c d))∧(¬ l1 > x1→¬ h0<x0→zaM x0 x1 (Ans lo hi c d) (zbI lo hi x0 x1 c d) (if x0 > l0 then x0 else l0) (if x1<h1 then x1 else h1)):=by
 have hx:=h.hx
 refine⟨λz=>?_,λz1 z2=>h.some (λn=>?_) (λn=>?_) ?_ ?_⟩
 ·rcases z with z | z
  ·rcases hl with ⟨_,_,rfl⟩ | ⟨n,_,rfl⟩
   ·omega
   ·exact h.none1 n z
  ·rcases hh with ⟨_,rfl,_⟩ | ⟨n,rfl,_⟩
   ·omega
   ·exact h.none2 n z
 ·rcases hl with ⟨z,_⟩ | ⟨_,_,rfl⟩
  ·exact absurd z n
  ·omega
 ·rcases hh with ⟨z,_⟩ | ⟨_,rfl,_⟩
  ·exact absurd z n
  ·omega
 ·rcases hl with ⟨z,rfl,_⟩ | ⟨n,rfl,_⟩
  ·refine .inl ⟨by split <;> omega,.inl z⟩
  ·split <;> omega
 ·rcases hh with ⟨z,_,rfl⟩ | ⟨n,_,rfl⟩
  ·refine .inl ⟨by split <;> omega,.inl z⟩
  ·split <;> omega
theorem if2 {a b:Prop} [Decidable a] [Decidable b] {A B:Prop}(h1:a→b→A)(h2:¬ (a∧b)→B):if (decide a&&decide b)=true then A else B:=by
 by_cases z:a∧b
 ·rw[decide_eq_true z.1,decide_eq_true z.2]; exact zch (h1 z.1 z.2)
 ·have e:(decide a&&decide b)=false:=by
   simp only[Bool.and_eq_false_iff,decide_eq_false_iff_not]
   by_cases y:a
   ·exact .inr λy2=>z ⟨y,y2⟩
   ·exact .inl y
  rw[e]; exact zb3 (h2 z)
theorem and2 {a b:Prop} [Decidable a] [Decidable b] {Q:DK}{S:Sto}(h:Q (.bl (decide a&&decide b)) S):if decide a=true then Q (.bl (decide b)) S else Q (.bl false) S:=
 ifD (λe=>by rw[decide_eq_true e,Bool.true_and] at h; exact h) (λe=>by rw[decide_eq_false e,Bool.false_and] at h; exact h)
theorem zbJ (a:Int):0≤mx0 a:=by unfold mx0; split <;> omega
theorem zgJ {a b:Int}(h:a≤b)(h0:0≤b):mx0 a≤b:=by unfold mx0; split <;> omega
theorem zc7 {a:Int}(h:Sz 1400 a):Sz 1400 (mx0 a):=by
 unfold mx0
 split
 ·exact Sz.of 0 (by decide)
 ·exact h
theorem zcX {a b:Int}{n:Nat}(ha:0≤a)(h:a≤b):a^n≤b^n:=by
 induction n with
 | zero=>simp
 | succ n ih=>
  rw[Vac,Vac]
  exact Int.mul_le_mul ih h ha (Vax (by omega))
theorem zey {a b:Int}{n:Nat}(ha:0≤a)(h:a<b)(hn:1≤n):a^n<b^n:=by
 obtain⟨k,rfl⟩:∃k,n=k+1:=⟨n-1,by omega⟩
 rw[Vac,Vac]
 have h1:a^k*a≤b^k*a:=VaF (zcX ha (by omega)) ha
 have h2:b^k*a<b^k*b:=Int.mul_lt_mul_of_pos_left h (Vau (by omega))
 omega
theorem plt {a b:Int}{n:Nat}(hb:0≤b)(h:a^n<b^n):a<b:=by
 by_cases c:a<b
 ·exact c
 ·have:=zcX (n:=n) hb (show b≤a by omega)
  omega
theorem znk {r g:Int}(hr:0≤r)(hg:0≤g):∀k:Nat,((k:Int)+1)*g^k*r-(k:Int)*(g^k*g)≤r^k*r
 | 0=>by simp
 | k+1=>by
  have ih:=znk hr hg k
  have m:=VaF ih hr
  have sq:0≤((k:Int)+1)*g^k*((r-g)*(r-g)):=by
   refine Van (Van (by omega) (Vax hg)) ?_
   by_cases c:0≤r-g
   ·exact Van c c
   ·exact Int.mul_nonneg_of_nonpos_of_nonpos (by omega) (by omega)
  rw[Vac,Vac]
  have e:((k:Int)+1+1)*(g^k*g)*r-((k:Int)+1)*(g^k*g*g)=(((k:Int)+1)*g^k*r-(k:Int)*(g^k*g))*r-((k:Int)+1)*g^k*((r-g)*(r-g)):=by
   grind
  have e2:(((k+1:Nat):Int)+1)*(g^k*g)*r-((k+1:Nat):Int)*(g^k*g*g)=((k:Int)+1+1)*(g^k*g)*r-((k:Int)+1)*(g^k*g*g):=by
   rw[Int.natCast_add]; rfl
  rw[e2,e]
  omega
theorem zqP {r g N:Int}{n:Nat}(hn:1≤n)(hr:0≤r)(hg:0<g)(h:r^n≤N):r≤(((n:Int)-1)*g+N/g^(n-1))/n:=by
 obtain⟨k,rfl⟩:∃k,n=k+1:=⟨n-1,by omega⟩
 have t:=znk hr (Vaf hg) k
 rw[Vac] at h
 have gp:0<g^k:=Vau hg
 have e0:(((k+1:Nat):Int)-1)=k:=by omega
 rw[e0,Nat.add_sub_cancel]
 have q:((k:Int)+1)*r-k*g≤N/g^k:=by
  refine(Int.le_ediv_iff_mul_le gp).mpr ?_
  have e:(((k:Int)+1)*r-k*g)*g^k=((k:Int)+1)*g^k*r-(k:Int)*(g^k*g):=by grind
  omega
 refine(Int.le_ediv_iff_mul_le (by omega)).mpr ?_
 have e:r*((k+1:Nat):Int)=((k:Int)+1)*r:=by rw[VaW]; rfl
 omega
theorem zoO {g N:Int}{n:Nat}(hn:1≤n)(hg:0<g)(h:N<g^n):(((n:Int)-1)*g+N/g^(n-1))/n<g:=by
 obtain⟨k,rfl⟩:∃k,n=k+1:=⟨n-1,by omega⟩
 have gp:0<g^k:=Vau hg
 rw[Vac] at h
 have e0:(((k+1:Nat):Int)-1)=k:=by omega
 rw[e0,Nat.add_sub_cancel]
 have q:N/g^k<g:=(Int.ediv_lt_iff_lt_mul gp).mpr (by rw[VaW g]; exact h)
 refine(Int.ediv_lt_iff_lt_mul (by omega)).mpr ?_
 have e:g*((k+1:Nat):Int)=(k:Int)*g+g:=by
  rw[VaW,Int.natCast_add,Int.add_mul]
  simp
 omega
theorem zdc {n:Nat}(h:n%2=1)(a:Int):(-a)^n=-(a^n):=by
 obtain⟨k,rfl⟩:∃k,n=2*k+1:=⟨n/2,by omega⟩
 rw[Vac,Vac,Int.pow_mul,Int.pow_mul]
 have e:(-a)^2=a^2:=by rw[Vac,Vac,Vac,Vac]; grind
 rw[e]
 grind
theorem zkU {n:Nat}(h:n%2=0)(a:Int):(-a)^n=a^n:=by
 obtain⟨k,rfl⟩:∃k,n=2*k:=⟨n/2,by omega⟩
 rw[Int.pow_mul,Int.pow_mul]
 have e:(-a)^2=a^2:=by rw[Vac,Vac,Vac,Vac]; grind
 rw[e]
theorem zhD {n:Nat}(h:n%2=1){a b:Int}(hab:a≤b):a^n≤b^n:=by
 by_cases c:0≤a
 ·exact zcX c hab
 ·by_cases d:0≤b
  ·have h1:a^n=-((-a)^n):=by rw[zdc h,VaR]
   have h2:(0:Int)≤(-a)^n:=Vax (by omega)
   have h3:(0:Int)≤b^n:=Vax d
   omega
  ·have h1:=zcX (n:=n) (show 0≤-b by omega) (show -b≤-a by omega)
   rw[zdc h,zdc h] at h1
   omega
theorem zlk {n:Nat}(h:n%2=1){a b:Int}(hab:a<b):a^n<b^n:=by
 by_cases c:0≤a
 ·exact zey c hab (by omega)
 ·by_cases d:0≤b
  ·have h1:a^n=-((-a)^n):=by rw[zdc h,VaR]
   have h2:(0:Int)<(-a)^n:=Vau (by omega)
   have h3:(0:Int)≤b^n:=Vax d
   omega
  ·have h1:=zey (n:=n) (show 0≤-b by omega) (show -b < -a by omega) (by omega)
   rw[zdc h,zdc h] at h1
   omega
def Mt (n:Nat)(lo hi l h:Int):Prop:=((n%2=0∧l<0∧0<h)∧0≤hi∨¬ (n%2=0∧l<0∧0<h)∧(l^n≤hi∨h^n≤hi))∧(lo≤l^n∨lo≤h^n)
def zbl (n:Nat)(N a b:Int):Prop:=b=a∧a^n=N∨b=a+1∧a^n<N∧N<b^n
structure Rts (n:Nat)(lo hi al bl ah bh:Int):Prop where
 hz:lo≤hi
 hn:1≤n
 nn:n%2=0→0≤al∧0≤ah
 up:∀t:Int,n%2=1∨0≤t→(t^n≤hi↔t≤ah)
 dn:∀t:Int,n%2=1∨0≤t→(lo≤t^n↔bl≤t)
 el:bl=al∧(bl^n=lo∨bl=0∧n%2=0)∨bl=al+1∧bl^n≠lo
 eh:bh=ah∧ah^n=hi∨bh=ah+1∧ah^n≠hi
theorem zbl.le {n:Nat}{N a b:Int}(hn:1≤n)(h:zbl n N a b)(ok:n%2=1∨0≤a){t:Int}(ht:n%2=1∨0≤t):t^n≤N↔t≤a:=by
 have mono:t≤a→t^n≤a^n:=λz=>by
  rcases ht with o | o
  ·exact zhD o z
  ·exact zcX o z
 have strict:a+1≤t→(a+1)^n≤t^n:=λz=>by
  rcases ok with o | o
  ·exact zhD o z
  ·exact zcX (by omega) z
 have s1:a^n<(a+1)^n:=by
  rcases ok with o | o
  ·exact zlk o (by omega)
  ·exact zey o (by omega) hn
 constructor
 ·intro q
  by_cases c:t≤a
  ·exact c
  ·have:=strict (by omega)
   rcases h with ⟨rfl,e⟩ | ⟨rfl,e1,e2⟩ <;> omega
 ·intro q
  have:=mono q
  rcases h with ⟨rfl,e⟩ | ⟨rfl,e1,e2⟩ <;> omega
theorem zbl.ge {n:Nat}{N a b:Int}(hn:1≤n)(h:zbl n N a b)(ok:n%2=1∨0≤a){t:Int}(ht:n%2=1∨0≤t):N≤t^n↔b≤t:=by
 have okb:n%2=1∨0≤b:=by
  rcases ok with o | o
  ·exact .inl o
  ·right
   rcases h with ⟨rfl,_⟩ | ⟨rfl,_⟩ <;> omega
 have mono:b≤t→b^n≤t^n:=λz=>by
  rcases okb with o | o
  ·exact zhD o z
  ·exact zcX o z
 have strict:t<b→t^n<b^n:=λz=>by
  rcases ht with o | o
  ·exact zlk o z
  ·exact zey o z hn
 have down:t≤a→t^n≤a^n:=λz=>by
  rcases ht with o | o
  ·exact zhD o z
  ·exact zcX o z
 constructor
 ·intro q
  by_cases c:b≤t
  ·exact c
  ·have:=strict (by omega)
   rcases h with ⟨rfl,e⟩ | ⟨rfl,e1,e2⟩
   ·omega
   ·have:=down (by omega)
    omega
 ·intro q
  have:=mono q
  rcases h with ⟨rfl,e⟩ | ⟨rfl,e1,e2⟩ <;> omega
theorem zef {n:Nat}(hn:1≤n):(0:Int)^n=0:=by
 obtain⟨k,rfl⟩:∃k,n=k+1:=⟨n-1,by omega⟩
 rw[Vac,VaL]
def Mp (n:Nat)(bl ah l h:Int):Prop:=l≤ah∧bl≤h∨n%2=0∧-ah≤h∧l≤-bl
section
variable {n:Nat}{lo hi al bl ah bh:Int}
theorem Rts.b0 (R:Rts n lo hi al bl ah bh)(he:n%2=0):0≤bl:=by
 have:=(R.nn he).1
 rcases R.el with ⟨e,_⟩ | ⟨e,_⟩ <;> omega
theorem Rts.hi0 (R:Rts n lo hi al bl ah bh)(he:n%2=0):0≤hi:=by
 have h:=(R.up 0 (.inr (by omega))).mpr (R.nn he).2
 rw[zef R.hn] at h
 exact h
theorem Rts.up' (R:Rts n lo hi al bl ah bh)(t:Int)(he:n%2=0)(ht:t≤0):t^n≤hi↔-t≤ah:=by
 rw[← R.up (-t) (.inr (by omega)),zkU he]
theorem Rts.dn' (R:Rts n lo hi al bl ah bh)(t:Int)(he:n%2=0)(ht:t≤0):lo≤t^n↔bl≤-t:=by
 rw[← R.dn (-t) (.inr (by omega)),zkU he]
theorem Rts.meets (R:Rts n lo hi al bl ah bh){l h:Int}(hlh:l≤h):Mt n lo hi l h↔Mp n bl ah l h:=by
 unfold Mt Mp
 rcases Nat.mod_two_eq_zero_or_one n with he | ho
 ·have b0:=R.b0 he
  have a0:=(R.nn he).2
  have h0:=R.hi0 he
  rcases Int.le_total 0 l with c | c
  ·have u1:=R.up l (.inr c)
   have u2:=R.up h (.inr (by omega))
   have d1:=R.dn l (.inr c)
   have d2:=R.dn h (.inr (by omega))
   rw[u1,u2,d1,d2]
   omega
  ·have u1:=R.up' l he c
   have d1:=R.dn' l he c
   rcases Int.le_total 0 h with d | d
   ·have u2:=R.up h (.inr d)
    have d2:=R.dn h (.inr d)
    rw[u1,u2,d1,d2]
    omega
   ·have u2:=R.up' h he d
    have d2:=R.dn' h he d
    rw[u1,u2,d1,d2]
    omega
 ·have u1:=R.up l (.inl ho)
  have u2:=R.up h (.inl ho)
  have d1:=R.dn l (.inl ho)
  have d2:=R.dn h (.inl ho)
  rw[u1,u2,d1,d2]
  omega
structure Least (n:Nat)(lo hi x0 x1 m:Int):Prop where
 a:x0≤m
 b:m≤x1
 c:Mt n lo hi x0 m
 d:∀k,x0≤k→k<m→¬ Mt n lo hi x0 k
def zhS (n:Nat)(lo hi x0 x1 v:Int):Prop:=∃m,Least n lo hi x0 x1 m∧(m=x0∧v=x0∨m≠x0∧(((m-1)^n<lo∧m^n=lo∨(m-1)^n > hi∧m^n=hi)∧v=m∨¬ ((m-1)^n<lo∧m^n=lo∨(m-1)^n > hi∧m^n=hi)∧v=m-1))
def zoG (n:Nat)(al bl ah bh x0 x1 v:Int):Prop:=
 (x0≤ah∧bl≤x1)∧¬ (n%2=0∧-ah≤x1∧x0≤-bl)∧v=(if x0 > al then x0 else al)∨
 (n%2=0∧-ah≤x1∧x0≤-bl)∧v=(if x0 > -bh then x0 else -bh)
theorem Rts.first (R:Rts n lo hi al bl ah bh){x0 x1 v w:Int}(F:zhS n lo hi x0 x1 v)(L:zoG n al bl ah bh x0 x1 w):v=w:=by
 obtain⟨m,⟨a,b,c,d⟩,e⟩:=F
 rw[R.meets a] at c
 have d':∀k,x0≤k→k<m→¬ Mp n bl ah x0 k:=λk h1 h2=>by
  rw[← R.meets h1]
  exact d k h1 h2
 unfold Mp at c d'
 have hz:=R.hz
 have el:=R.el
 have eh:=R.eh
 rcases L with ⟨⟨p1,p2⟩,p3,rfl⟩ | ⟨⟨q0,q1,q2⟩,rfl⟩
 ·have c':bl≤m:=by omega
  by_cases z:m=x0
  ·subst z
   split <;> omega
  ·have z2:m≤bl:=by
    have:=d' (m-1) (by omega) (by omega)
    omega
   have em:m=bl:=by omega
   subst em
   rcases Nat.mod_two_eq_zero_or_one n with he | ho
   ·have b0:=R.b0 he
    have a0:=(R.nn he).2
    have m1:¬ (lo≤(m-1)^n):=λz=>by
     have:=(R.dn (m-1) (.inr (by omega))).mp z
     omega
    split <;> omega
   ·have m1:¬ (lo≤(m-1)^n):=λz=>by
     have:=(R.dn (m-1) (.inl ho)).mp z
     omega
    split <;> omega
 ·have b0:=R.b0 q0
  have a0:=(R.nn q0).2
  have c':-ah≤m:=by omega
  by_cases z:m=x0
  ·subst z
   split <;> omega
  ·have z2:m≤-ah:=by
    have:=d' (m-1) (by omega) (by omega)
    omega
   have em:m=-ah:=by omega
   subst em
   have m1:¬ ((-ah-1)^n≤hi):=λz=>by
    have:=(R.up' (-ah-1) q0 (by omega)).mp z
    omega
   have m2:(-ah)^n=ah^n:=zkU q0 ah
   rw[m2] at e
   split <;> omega
theorem Rts.has (R:Rts n lo hi al bl ah bh){t:Int}(h1:lo≤t^n)(h2:t^n≤hi):bl≤t∧t≤ah∨n%2=0∧-ah≤t∧t≤-bl:=by
 rcases Nat.mod_two_eq_zero_or_one n with he | ho
 ·rcases Int.le_total 0 t with c | c
  ·exact .inl ⟨(R.dn t (.inr c)).mp h1,(R.up t (.inr c)).mp h2⟩
  ·have a:=(R.dn' t he c).mp h1
   have b:=(R.up' t he c).mp h2
   exact .inr ⟨he,by omega,by omega⟩
 ·exact .inl ⟨(R.dn t (.inl ho)).mp h1,(R.up t (.inl ho)).mp h2⟩
end
structure zcH (n:Nat)(lo hi x0 x1 L U:Int):Prop where
 m:Mt n lo hi x0 x1
 low:∀v,zhS n lo hi x0 x1 v→v=L
 he:n%2=0→∀v,zhS n lo hi (-x1) (-x0) v→v=-U
 ho:n%2=1→∀v,zhS n (-hi) (-lo) (-x1) (-x0) v→v=-U
 lu:L≤U
 has:∀t,x0≤t→t≤x1→lo≤t^n→t^n≤hi→L≤t∧t≤U
section
variable {n:Nat}{lo hi al bl ah bh x0 x1:Int}
end
theorem zkD {n:Nat}(hn:1≤n){N:Int}(h0:0≤N):∃r:Int,0≤r∧r^n≤N∧N<(r+1)^n:=by
 have key:∀k:Nat,N<((k:Int)+1)^n→∃r:Int,0≤r∧r^n≤N∧N<(r+1)^n:=by
  intro k
  induction k with
  | zero=>exact λh=>⟨0,by omega,by rw[zef hn]; exact h0,by simpa using h⟩
  | succ k ih=>
   intro h
   by_cases c:N<((k:Int)+1)^n
   ·exact ih c
   ·exact⟨(k:Int)+1,by omega,by omega,by simpa using h⟩
 refine key N.toNat ?_
 have h1:N<N+1:=by omega
 have h2:(N+1)^1≤(N+1)^n:=by
  obtain⟨k,rfl⟩:∃k,n=k+1:=⟨n-1,by omega⟩
  rw[Vac (N+1) k,Vac,VaE]
  have:0<(N+1)^k:=Vau (by omega)
  exact VaF (show (1:Int)≤(N+1)^k by omega) (by omega)
 have e:((N.toNat:Nat):Int)=N:=by omega
 rw[e]
 have e1:(N+1)^1=N+1:=by rw[Vac,VaE,Int.one_mul]
 omega
theorem zmJ {n:Nat}{N r:Int}(h1:r^n≤N)(h2:N<(r+1)^n):(r^n=N→zbl n N r r)∧(r^n≠N→zbl n N r (r+1)):=
 ⟨λe=>.inl ⟨rfl,e⟩,λe=>.inr ⟨rfl,by omega,h2⟩⟩
theorem zov {n:Nat}{N a b:Int}(ho:n%2=1)(h:zbl n (-N) a b):zbl n N (-b) (-a):=by
 unfold zbl at h ⊢
 rw[zdc ho,zdc ho]
 rcases h with ⟨rfl,e⟩ | ⟨rfl,e1,e2⟩
 ·exact .inl ⟨rfl,by omega⟩
 ·exact .inr ⟨by omega,by omega,by omega⟩
theorem Sz.mid {n:Nat}{a b x:Int}(ha:Sz n a)(hb:Sz n b)(h1:a≤x)(h2:x≤b):Sz n x:=by
 unfold Sz at *
 generalize 2^n=B at *
 omega
theorem zqO (N:Int)(h:0≤N):N<2^(Builtin.Int.intBits N):=by
 unfold Builtin.Int.intBits
 split
 ·rename_i z
  have:N=0:=by simpa using z
  subst this
  decide
 ·have l:N.natAbs<2^(N.natAbs.log2+1):=Nat.lt_log2_self
  have e:((2^(N.natAbs.log2+1):Nat):Int)=2^(N.natAbs.log2+1):=by simp
  omega
theorem zp0 {N n:Int}(h0:0≤N)(hn:1≤n):N<(1*2^((Builtin.Int.intBits N:Int)/n+1).toNat)^n.toNat:=by
 have b:=zqO N h0
 rw[Int.one_mul,← Int.pow_mul]
 refine Int.lt_of_lt_of_le b ?_
 have e:(2:Int)^(((Builtin.Int.intBits N:Int)/n+1).toNat*n.toNat)=((2^(((Builtin.Int.intBits N:Int)/n+1).toNat*n.toNat):Nat):Int):=by simp
 have e2:(2:Int)^(Builtin.Int.intBits N)=((2^(Builtin.Int.intBits N):Nat):Int):=by simp
 rw[e,e2]
 refine Int.ofNat_le.mpr (Nat.pow_le_pow_right (by decide) ?_)
 have d1:=Int.emod_add_mul_ediv (Builtin.Int.intBits N:Int) n
 have d2:=Int.emod_lt_of_pos (Builtin.Int.intBits N:Int) (show 0<n by omega)
 have d3:=Int.ediv_nonneg (show (0:Int)≤(Builtin.Int.intBits N:Int) by omega) (show 0≤n by omega)
 have m:(((((Builtin.Int.intBits N:Int)/n+1).toNat*n.toNat:Nat):Int))=n*((Builtin.Int.intBits N:Int)/n)+n:=by
  rw[Int.natCast_mul,Int.toNat_of_nonneg (by omega),Int.toNat_of_nonneg (by omega)]
  grind
 omega
theorem zqX {N n:Int}(hn:2≤n)(s:Sz 1300 N):Sz 652 (1*2^((Builtin.Int.intBits N:Int)/n+1).toNat):=by
 have b:=s.bits
 rw[Int.one_mul]
 unfold Sz
 rw[Int.natAbs_pow]
 have e:(2:Int).natAbs=2:=rfl
 rw[e]
 refine Nat.pow_lt_pow_right (by decide) ?_
 have d:(Builtin.Int.intBits N:Int)/n≤650:=by
  have h1:(Builtin.Int.intBits N:Int)/n≤(Builtin.Int.intBits N:Int)/2:=by
   refine(Int.le_ediv_iff_mul_le (by omega)).mpr ?_
   have d1:=Int.emod_add_mul_ediv (Builtin.Int.intBits N:Int) n
   have d2:=Int.emod_nonneg (Builtin.Int.intBits N:Int) (show n≠0 by omega)
   have d3:=Int.ediv_nonneg (show (0:Int)≤(Builtin.Int.intBits N:Int) by omega) (show 0≤n by omega)
   have d4:=VaF hn d3
   have d5:(Builtin.Int.intBits N:Int)/n*2=2*((Builtin.Int.intBits N:Int)/n):=VaW _ _
   omega
  omega
 omega
theorem zry {n g N:Int}(hn:1≤n):((n-1)*g+N/g^(n-1).toNat)/n=((((n.toNat:Nat):Int)-1)*g+N/g^(n.toNat-1))/((n.toNat:Nat):Int):=by
 have e1:((n.toNat:Nat):Int)=n:=by omega
 have e2:(n-1).toNat=n.toNat-1:=by omega
 rw[e1,e2]
def bk2 (i j:Int)(f:Option (Int×Int))(s:Int×Int→Option (Int×Int)):Option (List (Int×(Int×Int))):=match f with
 | none=>none
 | some x=>match s x with
  | none=>none
  | some y=>some [(i,x),(j,y)]
def ptB (x l h:Int×Int):Option (Int×Int):=if l.2 > x.2 then none else if h.1<x.1 then none else some (if x.1 > l.1 then x.1 else l.1,if x.2<h.2 then x.2 else h.2)
def loE (lo:Int)(x:Int×Int)(lb:Int):Int×Int:=if lb=0 then (x.1,x.1) else (lo/lb,-(-lo/lb))
def hiE (hi:Int)(x:Int×Int)(hb:Int):Int×Int:=if hb=0 then (x.2,x.2) else (hi/hb,-(-hi/hb))
def sdS (lo hi:Int)(x:Int×Int)(c d:Int):Option (Int×Int):=ptB x (loE lo x (zaO lo c d)) (hiE hi x (zaL hi c d))
def joS:Option (Int×Int)→Option (Int×Int)→Option (Int×Int)
 | none,o=>o
 | some p,none=>some p
 | some p,some q=>some (if q.1<p.1 then q.1 else p.1,if q.2 > p.2 then q.2 else p.2)
def btS (z x y:Int×Int)(g:Int):Option (Int×Int):=
 if (y.1≤0∧0≤y.2)∧z.1≤0∧0≤z.2 then some x else
  joS (if y.2 > 0 then sdS (z.1*g) (z.2*g) x (mx0 y.1) y.2 else none) (if y.1<0 then sdS (-(z.2*g)) (-(z.1*g)) x (mx0 (-y.2)) (-y.1) else none)
theorem zkJ {lo hi c d:Int}{x:Int×Int}(h:zbB lo hi x.1 x.2 c d):(sdS lo hi x c d=none→NoV x.1 x.2 (Ans lo hi c d))∧∀p,sdS lo hi x c d=some p→zaM x.1 x.2 (Ans lo hi c d) (zbI lo hi x.1 x.2 c d) p.1 p.2:=by
 have hl:zaO lo c d=0∧(loE lo x (zaO lo c d)).1=x.1∧(loE lo x (zaO lo c d)).2=x.1∨zaO lo c d≠0∧(loE lo x (zaO lo c d)).1=lo/zaO lo c d∧(loE lo x (zaO lo c d)).2=-(-lo/zaO lo c d):=by
  by_cases e:zaO lo c d=0
  ·exact .inl ⟨e,by rw[loE,if_pos e],by rw[loE,if_pos e]⟩
  ·exact .inr ⟨e,by rw[loE,if_neg e],by rw[loE,if_neg e]⟩
 have hh:zaL hi c d=0∧(hiE hi x (zaL hi c d)).1=x.2∧(hiE hi x (zaL hi c d)).2=x.2∨zaL hi c d≠0∧(hiE hi x (zaL hi c d)).1=hi/zaL hi c d∧(hiE hi x (zaL hi c d)).2=-(-hi/zaL hi c d):=by
  by_cases e:zaL hi c d=0
  ·exact .inl ⟨e,by rw[hiE,if_pos e],by rw[hiE,if_pos e]⟩
  ·exact .inr ⟨e,by rw[hiE,if_neg e],by rw[hiE,if_neg e]⟩
 have z:=zsd h hl hh
 unfold sdS ptB
 refine⟨λe=>?_,λp e=>?_⟩
 ·refine z.1 ?_
  split at e
  ·exact .inl ‹_›
  ·split at e
   ·exact .inr ‹_›
   ·cases e
 ·split at e
  ·cases e
  ·split at e
   ·cases e
   ·cases e
    exact z.2 ‹_› ‹_›
theorem zlC {z x y:Int×Int}{g:Int}(hz:z.1≤z.2)(hx:x.1≤x.2)(hy:y.1≤y.2)(hg:1≤g):(btS z x y g=none→NoV x.1 x.2 (Ans (z.1*g) (z.2*g) y.1 y.2))∧∀p,btS z x y g=some p→zdm (z.1*g) (z.2*g) x.1 x.2 y.1 y.2 p.1 p.2:=by
 have hzz:z.1*g≤z.2*g:=mlr hz (by omega)
 have zlo:z.1*g≤0∧0≤z.2*g↔z.1≤0∧0≤z.2:=by
  constructor
  ·rintro⟨a,b⟩
   exact⟨can (show z.1*g≤0*g by omega) (by omega),can (show 0*g≤z.2*g by omega) (by omega)⟩
  ·rintro⟨a,b⟩
   exact⟨Int.mul_nonpos_of_nonpos_of_nonneg a (by omega),Van b (by omega)⟩
 unfold btS
 split
 ·rename_i c
  refine⟨λe=>(by cases e),λp e=>?_⟩
  cases e
  exact zsJ hx c.1 (zlo.mpr c.2)
 ·rename_i c
  have nb:¬ ((y.1≤0∧0≤y.2)∧z.1*g≤0∧0≤z.2*g):=λq=>c ⟨q.1,zlo.mp q.2⟩
  by_cases c1:y.2 > 0
  ·have S1:=zkJ (x:=x) (lo:=z.1*g) (hi:=z.2*g) (c:=mx0 y.1) (d:=y.2) ⟨hzz,hx,zbJ _,zgJ (by omega) (by omega),c1⟩
   rw[if_pos c1]
   by_cases c2:y.1<0
   ·have S2:=zkJ (x:=x) (lo:=-(z.2*g)) (hi:=-(z.1*g)) (c:=mx0 (-y.2)) (d:=-y.1) ⟨by omega,hx,zbJ _,zgJ (by omega) (by omega),by omega⟩
    rw[if_pos c2]
    generalize sdS (z.1*g) (z.2*g) x (mx0 y.1) y.2=o1 at S1
    generalize sdS (-(z.2*g)) (-(z.1*g)) x (mx0 (-y.2)) (-y.1)=o2 at S2
    cases o1 with
    | none=>cases o2 with
     | none=>exact⟨λ_=>zqg hzz hy nb (S1.1 rfl) (S2.1 rfl),λp e=>by cases e⟩
     | some q=>exact⟨λe=>(by cases e),λp e=>by cases e; exact zsi hzz hy nb c1 c2 (S1.1 rfl) (S2.2 _ rfl)⟩
    | some p=>cases o2 with
     | none=>exact⟨λe=>(by cases e),λp e=>by cases e; exact zpr hzz hy nb c1 c2 (S1.2 _ rfl) (S2.1 rfl)⟩
     | some q=>exact⟨λe=>(by cases e),λp e=>by cases e; exact zoq hzz hy nb c1 c2 (S1.2 _ rfl) (S2.2 _ rfl)⟩
   ·rw[if_neg c2]
    generalize sdS (z.1*g) (z.2*g) x (mx0 y.1) y.2=o1 at S1
    cases o1 with
    | none=>exact⟨λ_=>zqx hzz hy nb (S1.1 rfl) c2,λp e=>by cases e⟩
    | some p=>exact⟨λe=>(by cases e),λp e=>by cases e; exact zpY hzz hy nb c1 c2 (S1.2 _ rfl)⟩
  ·rw[if_neg c1]
   by_cases c2:y.1<0
   ·have S2:=zkJ (x:=x) (lo:=-(z.2*g)) (hi:=-(z.1*g)) (c:=mx0 (-y.2)) (d:=-y.1) ⟨by omega,hx,zbJ _,zgJ (by omega) (by omega),by omega⟩
    rw[if_pos c2]
    generalize sdS (-(z.2*g)) (-(z.1*g)) x (mx0 (-y.2)) (-y.1)=o2 at S2
    cases o2 with
    | none=>exact⟨λ_=>zsK hzz hy nb c1 (S2.1 rfl),λp e=>by cases e⟩
    | some q=>exact⟨λe=>(by cases e),λp e=>by cases e; exact zrg hzz hy nb c1 c2 (S2.2 _ rfl)⟩
   ·rw[if_neg c2]
    exact⟨λ_=>zr6 hzz hy nb c1 c2,λp e=>by cases e⟩
def Sub (x:Int×Int)(o:Option (Int×Int)):Prop:=∀p,o=some p→p.1≤p.2∧x.1≤p.1∧p.2≤x.2
theorem zgl {z x y:Int×Int}{g:Int}(hz:z.1≤z.2)(hx:x.1≤x.2)(hy:y.1≤y.2)(hg:1≤g):Sub x (btS z x y g):=λp e=>by
 have W:=(zlC hz hx hy hg).2 p e
 exact⟨W.le,W.within.1,W.within.2⟩
def InF (s:Int×Int)(g t u:Int):Prop:=s.1*u≤t*g∧t*g≤s.2*u
noncomputable def rbS (N:Int)(n:Nat):Int:=open Classical in if h:∃r:Int,0≤r∧r^n≤N∧N<(r+1)^n then Classical.choose h else 0
theorem zeJ {N r:Int}{n:Nat}(h0:0≤r)(h1:r^n≤N)(h2:N<(r+1)^n):r=rbS N n:=by
 have ex:∃r:Int,0≤r∧r^n≤N∧N<(r+1)^n:=⟨r,h0,h1,h2⟩
 have e:rbS N n=Classical.choose ex:=by unfold rbS; rw[dif_pos ex]
 obtain⟨c0,c1,c2⟩:=Classical.choose_spec ex
 rw[← e] at c0 c1 c2
 have a:=plt (n:=n) (show 0≤rbS N n+1 by omega) (Int.lt_of_le_of_lt h1 c2)
 have b:=plt (n:=n) (show 0≤r+1 by omega) (Int.lt_of_le_of_lt c1 h2)
 omega
noncomputable def rt0 (N:Int)(n:Nat):Int×Int:=if (rbS N n)^n=N then (rbS N n,rbS N n) else (rbS N n,rbS N n+1)
noncomputable def rtS (N:Int)(n:Nat):Int×Int:=if N<0 then (-(rt0 (-N) n).2,-(rt0 (-N) n).1) else rt0 N n
theorem zmV {N:Int}{n:Nat}(hn:1≤n)(h0:0≤N):zbl n N (rt0 N n).1 (rt0 N n).2∧0≤(rt0 N n).1:=by
 obtain⟨r,r0,r1,r2⟩:=zkD hn h0
 have e:=zeJ r0 r1 r2
 unfold rt0
 rw[← e]
 split
 ·exact⟨(zmJ r1 r2).1 ‹_›,r0⟩
 ·exact⟨(zmJ r1 r2).2 ‹_›,r0⟩
theorem zkj {N:Int}{n:Nat}(hn:1≤n)(h:n%2=1∨0≤N):zbl n N (rtS N n).1 (rtS N n).2∧(0≤N→0≤(rtS N n).1):=by
 unfold rtS
 split
 ·exact⟨zov (by omega) (zmV hn (by omega)).1,λz=>by omega⟩
 ·have z:=zmV (N:=N) hn (by omega)
  exact⟨z.1,λ_=>z.2⟩
noncomputable def bpS (z x:Int×Int)(n g:Int):Option (Int×Int):=
 if n%2=1 then ptB x (rtS (z.1*g^(n-1).toNat) n.toNat) (rtS (z.2*g^(n-1).toNat) n.toNat) else
  if z.2*g^(n-1).toNat<0 then none else
   joS (ptB x (rtS (mx0 (z.1*g^(n-1).toNat)) n.toNat) (rtS (z.2*g^(n-1).toNat) n.toNat))
    (ptB x (-(rtS (z.2*g^(n-1).toNat) n.toNat).2,-(rtS (z.2*g^(n-1).toNat) n.toNat).1) (-(rtS (mx0 (z.1*g^(n-1).toNat)) n.toNat).2,-(rtS (mx0 (z.1*g^(n-1).toNat)) n.toNat).1))
theorem zbl.ab {n:Nat}{N a b:Int}(h:zbl n N a b):a≤b∧a^n≤N∧N≤b^n:=by
 unfold zbl at h
 rcases h with ⟨e,h⟩ | ⟨e,h1,h2⟩
 ·subst e; omega
 ·omega
theorem zld {x l h:Int×Int}(hx:x.1≤x.2)(hl:l.1≤l.2)(hh:h.1≤h.2)(lh:l.1≤h.2):Sub x (ptB x l h):=λp e=>by
 unfold ptB at e
 split at e
 ·cases e
 ·split at e
  ·cases e
  ·cases e
   dsimp only
   split <;> split <;> omega
theorem zrz {x:Int×Int}{a b:Option (Int×Int)}(h1:Sub x a)(h2:Sub x b):Sub x (joS a b):=λp e=>by
 cases a with
 | none=>exact h2 p e
 | some q=>cases b with
  | none=>exact h1 p e
  | some r=>
   have z1:=h1 q rfl
   have z2:=h2 r rfl
   cases e
   dsimp only
   split <;> split <;> omega
theorem zm5 {n:Nat}{N M al bl ah bh:Int}(hn:1≤n)(ok:n%2=1∨0≤al∧0≤ah)(h1:zbl n N al bl)(h2:zbl n M ah bh)(h:N≤M):al≤bh:=by
 have a:=h1.ab
 have b:=h2.ab
 by_cases c:al≤bh
 ·exact c
 ·rcases ok with ho | ⟨o1,o2⟩
  ·have:=zlk ho (show bh<al by omega)
   omega
  ·have:=zey (n:=n) (show 0≤bh by omega) (show bh<al by omega) hn
   omega
theorem zom {z x:Int×Int}{n g:Int}(hz:z.1≤z.2)(hx:x.1≤x.2)(hg:1≤g)(hn:2≤n):Sub x (bpS z x n g):=by
 have gp:(0:Int)<g^(n-1).toNat:=Vau (by omega)
 have hzz:z.1*g^(n-1).toNat≤z.2*g^(n-1).toNat:=mlr hz (by omega)
 unfold bpS
 generalize g^(n-1).toNat=G at gp hzz
 generalize z.1*G=lo at hzz
 generalize z.2*G=hi at hzz
 have hn1:1≤n.toNat:=by omega
 split
 ·have ho:n.toNat%2=1:=by omega
  have r1:=(zkj (N:=lo) hn1 (.inl ho)).1
  have r2:=(zkj (N:=hi) hn1 (.inl ho)).1
  exact zld hx r1.ab.1 r2.ab.1 (zm5 hn1 (.inl ho) r1 r2 hzz)
 ·split
  ·exact λp e=>by cases e
  ·have m0:0≤mx0 lo:=zbJ lo
   have r1:=zkj (N:=mx0 lo) hn1 (.inr m0)
   have r2:=zkj (N:=hi) hn1 (.inr (by omega))
   have le:mx0 lo≤hi:=zgJ hzz (by omega)
   have k:=zm5 hn1 (.inr ⟨r1.2 m0,r2.2 (by omega)⟩) r1.1 r2.1 le
   have a1:=r1.1.ab.1
   have a2:=r2.1.ab.1
   refine zrz (zld hx a1 a2 k) (zld hx ?_ ?_ ?_)
   ·show -(rtS hi n.toNat).2≤-(rtS hi n.toNat).1
    omega
   ·show -(rtS (mx0 lo) n.toNat).2≤-(rtS (mx0 lo) n.toNat).1
    omega
   ·show -(rtS hi n.toNat).2≤-(rtS (mx0 lo) n.toNat).1
    omega
theorem zik {p q:Int×Int}:Sub p (zaW p q):=λr e=>by
 refine⟨zr0 e,?_⟩
 unfold zaW at e
 have go:∀lo hi:Int,p.1≤lo→hi≤p.2→(if hi<lo then none else some (lo,hi))=some r→p.1≤r.1∧r.2≤p.2:=λlo hi a b e=>by
  split at e
  ·cases e
  ·cases e
   exact⟨a,b⟩
 refine go _ _ ?_ ?_ e
 ·split <;> omega
 ·split <;> omega
noncomputable def Nd.bk (vs:List (Int×Int))(z:Int×Int)(g:Int):Nd→Option (List (Int×(Int×Int)))
 | .plus i j=>bk2 i j (zaW (gt vs i) (z.1-(gt vs j).2,z.2-(gt vs j).1)) λx=>zaW (if i=j then x else gt vs j) (z.1-x.2,z.2-x.1)
 | .minus i j=>bk2 i j (zaW (gt vs i) (z.1+(gt vs j).1,z.2+(gt vs j).2)) λx=>zaW (if i=j then x else gt vs j) (x.1-z.2,x.2-z.1)
 | .times i j=>bk2 i j (btS z (gt vs i) (gt vs j) g) λx=>btS z (if i=j then x else gt vs j) x g
 | .power i n=>match bpS z (gt vs i) n g with
  | none=>none
  | some x=>some [(i,x)]
 | _=>some []
theorem Sz.in2 {B:Nat}{x p:Int×Int}(h1:Sz B x.1)(h2:Sz B x.2)(h:p.1≤p.2∧x.1≤p.1∧p.2≤x.2):p.1≤p.2∧Sz B p.1∧Sz B p.2:=⟨h.1,Sz.mid h1 h2 h.2.1 (by omega),Sz.mid h1 h2 (by omega) h.2.2⟩
def Pts (B:Nat)(m:Int)(l:List (Int×(Int×Int))):Prop:=l.length≤2∧∀p∈l,inR m p.1∧p.2.1≤p.2.2∧Sz B p.2.1∧Sz B p.2.2
theorem zkp {B:Nat}{vs:List (Int×Int)}{i j:Int}{f:Option (Int×Int)}{s:Int×Int→Option (Int×Int)}{l:List (Int×(Int×Int))}(hs:Spn B vs)(hi:inR vs.length i)(hj:inR vs.length j)(h1:Sub (gt vs i) f)(h2:∀x,f=some x→Sub (if i=j then x else gt vs j) (s x))(h:bk2 i j f s=some l):Pts B vs.length l:=by
 unfold bk2 at h
 split at h
 ·cases h
 ·rename_i x
  split at h
  ·cases h
  ·rename_i y ey
   cases h
   have a:=(hs.at hi).2
   have b:=(hs.at hj).2
   have zx:=Sz.in2 a.1 a.2 (h1 x rfl)
   have zy:y.1≤y.2∧Sz B y.1∧Sz B y.2:=by
    have q:=h2 x rfl y ey
    split at q
    ·exact Sz.in2 zx.2.1 zx.2.2 q
    ·exact Sz.in2 b.1 b.2 q
   refine⟨by simp,λp hp=>?_⟩
   simp only[Vae,Vap,or_false] at hp
   rcases hp with rfl | rfl
   ·exact⟨hi,zx⟩
   ·exact⟨hj,zy⟩
theorem Nd.bk_pts {B:Nat}{vs:List (Int×Int)}{z:Int×Int}{g q:Int}(hs:Spn B vs)(hz:z.1≤z.2)(hg:1≤g):∀(v:Nd) (l:List (Int×(Int×Int))),v.ok vs.length q→v.bk vs z g=some l→Pts B vs.length l
 | .number _ _,l,_,h=>by cases h; exact⟨by simp,λp hp=>nomatch hp⟩
 | .unknown _,l,_,h=>by cases h; exact⟨by simp,λp hp=>nomatch hp⟩
 | .plus i j,l,ok,h=>zkp hs ok.1 ok.2 zik (λx _=>zik) h
 | .minus i j,l,ok,h=>zkp hs ok.1 ok.2 zik (λx _=>zik) h
 | .times i j,l,ok,h=>by
  have a:=(hs.at ok.1).1
  have b:=(hs.at ok.2).1
  have s1:=zgl (z:=z) (x:=gt vs i) (y:=gt vs j) hz a b hg
  refine zkp hs ok.1 ok.2 s1 (λx e=>?_) h
  have lx:=(s1 x e).1
  refine zgl hz ?_ lx hg
  split
  ·exact lx
  ·exact b
 | .power i n,l,ok,h=>by
  have a:=hs.at ok.1
  have s1:=zom (z:=z) (x:=gt vs i) (n:=n) hz a.1 hg ok.2.1
  unfold Nd.bk at h
  dsimp only at h
  split at h
  ·cases h
  ·rename_i x ex
   cases h
   refine⟨by simp,λp hp=>?_⟩
   simp only[Vae,Vap,or_false] at hp
   subst hp
   exact⟨ok.1,Sz.in2 a.2.1 a.2.2 (s1 x ex)⟩
theorem zsD {vs:List (Int×Int)}{k:Int}{i:Int}{p:Int×Int}(hi:inR vs.length i)(hk:inR vs.length k):gt (vs.set k.toNat p) i=if i=k then p else gt vs i:=by
 have h0:=hi.1
 have h1:=hi.2
 have k0:=hk.1
 unfold gt
 rw[VaC,VaC,List.getElem?_set]
 by_cases e:i=k
 ·subst e
  rw[if_pos rfl,if_pos (by omega),if_pos rfl]
  rfl
 ·rw[if_neg (by omega),if_neg e]
theorem InW.set {g:Int}{vs ds:List (Int×Int)}{k:Int}{p:Int×Int}(h:InW g vs ds)(ln:vs.length=ds.length)(hk:inR vs.length k)(hp:InF p g (gt ds k).1 (gt ds k).2):InW g (vs.set k.toNat p) ds:=λi hi=>by
 rw[zsD (by rw[ln]; exact hi) hk]
 split
 ·rename_i e; subst e; exact hp
 ·exact h i hi
def Ptn (g:Int)(bs qs:List (Int×Int)):Prop:=qs.length=bs.length∧Gd 110 qs∧InW g bs qs
def zkQ (g:Int)(bs:List (Int×Int))(L:Nat)(S:Sto)(ys:List D):Prop:=∀y∈ys,∃(m:Nat) (qs:List (Int×Int)),y=.ref m∧m≠L∧S[m]?=some (.lst (qs.map frD))∧Ptn g bs qs
theorem zkQ.up {g:Int}{bs:List (Int×Int)}{L:Nat}{S T:Sto}{ys:List D}(h:zkQ g bs L S ys)(pr:Pre S T):zkQ g bs L T ys:=λy hy=>by
 obtain⟨m,qs,e,n,hm,p⟩:=h y hy
 exact⟨m,qs,e,n,pr _ _ hm,p⟩
theorem zaM.same {x0 x1 L U L' U':Int}{V Sp Sp':Int→Int→Prop}(h:zaM x0 x1 V Sp L U)(h':zaM x0 x1 V Sp' L' U'):L=L'∧U=U':=by
 obtain⟨a,b,_,b0,a0,a1,av,al⟩:=h.lo
 obtain⟨c,d,_,d0,c0,c1,cv,cl⟩:=h'.lo
 obtain⟨e,f,_,f0,e0,e1,ev,el⟩:=h.hi
 obtain⟨i,j,_,j0,i0,i1,iv,il⟩:=h'.hi
 have l1:=(h'.all a b b0 a0 a1 av).1
 have l2:=(h.all c d d0 c0 c1 cv).1
 have u1:=(h'.all e f f0 e0 e1 ev).2
 have u2:=(h.all i j j0 i0 i1 iv).2
 have k:∀ {m n q:Int},0<q→m*q<n*q→m<n:=λhq h=>Int.lt_of_mul_lt_mul_right h (Vaf hq)
 have z1:L'<L+1:=k b0 (by omega)
 have z2:L<L'+1:=k d0 (by omega)
 have z3:U-1<U':=k f0 (by omega)
 have z4:U'-1<U:=k j0 (by omega)
 omega
abbrev PcV (l h:Option (Int×Int))(p q:Int):Prop:=(∀a,l=some a→a.1*q≤p*a.2)∧∀b,h=some b→p*b.2≤b.1*q
abbrev PcS (x:Int×Int)(l h:Option (Int×Int))(p q:Int):Prop:=(p=x.1∧q=1)∨(p=x.2∧q=1)∨(∃a,l=some a∧p=a.1∧q=a.2)∨∃b,h=some b∧p=b.1∧q=b.2
def kpS (x:Int×Int)(l h:Option (Int×Int)):Option (Int×Int):=
 match (match l with
  | none=>some x.1
  | some a=>if a.1 > x.2*a.2 then none else some (if a.1/a.2 > x.1 then a.1/a.2 else x.1)) with
 | none=>none
 | some lo=>match h with
  | none=>some (lo,x.2)
  | some b=>if b.1<x.1*b.2 then none else some (lo,if -(-b.1/b.2)<x.2 then -(-b.1/b.2) else x.2)
theorem zsu {x:Int×Int}{l h:Option (Int×Int)}(hx:x.1≤x.2)(hl:∀a,l=some a→0<a.2∧a.1≤x.2*a.2)(hh:∀b,h=some b→0<b.2∧x.1*b.2≤b.1)(lh:∀a b,l=some a→h=some b→a.1*b.2≤b.1*a.2){L:Int}(eL:(∀a,l=some a→L=if a.1/a.2 > x.1 then a.1/a.2 else x.1)∧(l=none→L=x.1)):(∀p q,0<q→x.1*q≤p→PcV l h p q→L*q≤p)∧∃p q,PcS x l h p q∧0<q∧x.1*q≤p∧p≤x.2*q∧PcV l h p q∧p<(L+1)*q:=by
 cases l with
 | none=>
  have e:=eL.2 rfl
  subst e
  refine⟨λp q _ h1 _=>h1,x.1,1,.inl ⟨rfl,rfl⟩,by decide,by omega,by omega,⟨λa e=>(by cases e),λb e=>?_⟩,by omega⟩
  have:=(hh b e).2
  omega
 | some a=>
  have e:=eL.1 a rfl
  obtain⟨a0,a1⟩:=hl a rfl
  obtain⟨d1,d2⟩:=dl a.1 a0
  have low:∀p q,0<q→a.1*q≤p*a.2→a.1/a.2*q≤p:=λp q hq h=>by
   have z:=mlr d1 (Vaf hq)
   have r:a.1/a.2*a.2*q=a.1/a.2*q*a.2:=by grind
   exact can (show a.1/a.2*q*a.2≤p*a.2 by omega) a0
  refine⟨λp q hq h1 v=>?_,?_⟩
  ·rw[e]
   split
   ·exact low p q hq (v.1 a rfl)
   ·exact h1
  ·by_cases c:a.1≤x.1*a.2
   ·have q1:a.1/a.2≤x.1:=by
     have:=can (show a.1/a.2*a.2≤x.1*a.2 by omega) a0
     exact this
    rw[if_neg (by omega)] at e
    subst e
    refine⟨x.1,1,.inl ⟨rfl,rfl⟩,by decide,by omega,by omega,⟨λb eb=>?_,λb eb=>?_⟩,by omega⟩
    ·cases eb
     omega
    ·have:=(hh b eb).2
     omega
   ·refine⟨a.1,a.2,.inr (.inr (.inl ⟨a,rfl,rfl,rfl⟩)),a0,by omega,a1,⟨λb eb=>?_,λb eb=>lh a b rfl eb⟩,?_⟩
    ·cases eb
     omega
    ·have le:a.1/a.2≤L:=by rw[e]; split <;> omega
     have:=mlr (show a.1/a.2+1≤L+1 by omega) (Vaf a0)
     omega
theorem zob {x:Int×Int}{l h:Option (Int×Int)}(hx:x.1≤x.2)(hl:∀a,l=some a→0<a.2∧a.1≤x.2*a.2)(hh:∀b,h=some b→0<b.2∧x.1*b.2≤b.1)(lh:∀a b,l=some a→h=some b→a.1*b.2≤b.1*a.2){U:Int}(eU:(∀b,h=some b→U=if -(-b.1/b.2)<x.2 then -(-b.1/b.2) else x.2)∧(h=none→U=x.2)):(∀p q,0<q→p≤x.2*q→PcV l h p q→p≤U*q)∧∃p q,PcS x l h p q∧0<q∧x.1*q≤p∧p≤x.2*q∧PcV l h p q∧(U-1)*q<p:=by
 cases h with
 | none=>
  have e:=eU.2 rfl
  subst e
  refine⟨λp q _ h1 _=>h1,x.2,1,.inr (.inl ⟨rfl,rfl⟩),by decide,by omega,by omega,⟨λa e=>?_,λb e=>(by cases e)⟩,by omega⟩
  have:=(hl a e).2
  omega
 | some b=>
  have e:=eU.1 b rfl
  obtain⟨b0,b1⟩:=hh b rfl
  obtain⟨d1,d2⟩:=dh b.1 b0
  have high:∀p q,0<q→p*b.2≤b.1*q→p≤-(-b.1/b.2)*q:=λp q hq h=>by
   have z:=mlr d1 (Vaf hq)
   have r:-(-b.1/b.2)*b.2*q=-(-b.1/b.2)*q*b.2:=by grind
   exact can (show p*b.2≤-(-b.1/b.2)*q*b.2 by omega) b0
  refine⟨λp q hq h1 v=>?_,?_⟩
  ·rw[e]
   split
   ·exact high p q hq (v.2 b rfl)
   ·exact h1
  ·by_cases c:x.2*b.2≤b.1
   ·have q1:x.2≤-(-b.1/b.2):=can (show x.2*b.2≤-(-b.1/b.2)*b.2 by omega) b0
    rw[if_neg (by omega)] at e
    subst e
    refine⟨x.2,1,.inr (.inl ⟨rfl,rfl⟩),by decide,by omega,by omega,⟨λa ea=>?_,λa ea=>?_⟩,by omega⟩
    ·have:=(hl a ea).2
     omega
    ·cases ea
     omega
   ·refine⟨b.1,b.2,.inr (.inr (.inr ⟨b,rfl,rfl,rfl⟩)),b0,b1,by omega,⟨λa ea=>lh a b ea rfl,λa ea=>?_⟩,?_⟩
    ·cases ea
     omega
    ·have le:U≤-(-b.1/b.2):=by rw[e]; split <;> omega
     have:=mlr (show U-1≤-(-b.1/b.2)-1 by omega) (Vaf b0)
     omega
theorem zmD {x:Int×Int}{l h:Option (Int×Int)}(hx:x.1≤x.2)(hl:∀a,l=some a→0<a.2)(hh:∀b,h=some b→0<b.2)(lh:∀a b,l=some a→h=some b→a.1*b.2≤b.1*a.2):(kpS x l h=none→NoV x.1 x.2 (PcV l h))∧∀r,kpS x l h=some r→zaM x.1 x.2 (PcV l h) (PcS x l h) r.1 r.2:=by
 have nl:∀a,l=some a→a.1 > x.2*a.2→NoV x.1 x.2 (PcV l h):=λa e c p q hq _ h2 v=>by
  have a0:=hl a e
  have z:=v.1 a e
  have y:=mlr h2 (Vaf a0)
  have r:x.2*q*a.2=x.2*a.2*q:=by grind
  have:=can (show a.1*q≤x.2*a.2*q by omega) hq
  omega
 have nh:∀b,h=some b→b.1<x.1*b.2→NoV x.1 x.2 (PcV l h):=λb e c p q hq h1 _ v=>by
  have b0:=hh b e
  have z:=v.2 b e
  have y:=mlr h1 (Vaf b0)
  have r:x.1*q*b.2=x.1*b.2*q:=by grind
  have:=can (show x.1*b.2*q≤b.1*q by omega) hq
  omega
 have mk:∀ {L U:Int},(∀a,l=some a→a.1≤x.2*a.2)→(∀b,h=some b→x.1*b.2≤b.1)→((∀a,l=some a→L=if a.1/a.2 > x.1 then a.1/a.2 else x.1)∧(l=none→L=x.1))→((∀b,h=some b→U=if -(-b.1/b.2)<x.2 then -(-b.1/b.2) else x.2)∧(h=none→U=x.2))→zaM x.1 x.2 (PcV l h) (PcS x l h) L U:=λca cb eL eU=>by
  have A:=zsu hx (λa e=>⟨hl a e,ca a e⟩) (λb e=>⟨hh b e,cb b e⟩) lh eL
  have B:=zob hx (λa e=>⟨hl a e,ca a e⟩) (λb e=>⟨hh b e,cb b e⟩) lh eU
  exact⟨λp q hq h1 h2 v=>⟨A.1 p q hq h1 v,B.1 p q hq h2 v⟩,A.2,B.2⟩
 unfold kpS
 cases l with
 | none=>cases h with
  | none=>exact⟨λe=>(by cases e),λr e=>by cases e; exact mk (λa e=>(by cases e)) (λb e=>(by cases e)) ⟨λa e=>(by cases e),λ_=>rfl⟩ ⟨λb e=>(by cases e),λ_=>rfl⟩⟩
  | some b=>
   dsimp only
   split
   ·rename_i c
    exact⟨λ_=>nh b rfl c,λr e=>(by cases e)⟩
   ·rename_i c
    exact⟨λe=>(by cases e),λr e=>by cases e; exact mk (λa e=>(by cases e)) (λb' e=>by cases e; omega) ⟨λa e=>(by cases e),λ_=>rfl⟩ ⟨λb' e=>by cases e; rfl,λe=>(by cases e)⟩⟩
 | some a=>
  dsimp only
  by_cases ca:a.1 > x.2*a.2
  ·rw[if_pos ca]
   exact⟨λ_=>nl a rfl ca,λr e=>(by cases e)⟩
  ·rw[if_neg ca]
   dsimp only
   cases h with
   | none=>exact⟨λe=>(by cases e),λr e=>by cases e; exact mk (λa' e=>by cases e; omega) (λb e=>(by cases e)) ⟨λa' e=>by cases e; rfl,λe=>(by cases e)⟩ ⟨λb e=>(by cases e),λ_=>rfl⟩⟩
   | some b=>
    dsimp only
    split
    ·rename_i c
     exact⟨λ_=>nh b rfl c,λr e=>(by cases e)⟩
    ·rename_i c
     exact⟨λe=>(by cases e),λr e=>by cases e; exact mk (λa' e=>by cases e; omega) (λb' e=>by cases e; omega) ⟨λa' e=>by cases e; rfl,λe=>(by cases e)⟩ ⟨λb' e=>by cases e; rfl,λe=>(by cases e)⟩⟩
structure zbn (x:Int×Int)(V:Int→Int→Prop)(o:Option (Int×Int)):Prop where
 no:o=none→NoV x.1 x.2 V
 is:∀r,o=some r→∃Sp,zaM x.1 x.2 V Sp r.1 r.2
theorem zbn.same {x:Int×Int}{V:Int→Int→Prop}{o o':Option (Int×Int)}(h:zbn x V o)(h':zbn x V o'):o=o':=by
 have no:∀ {r:Int×Int} {Sp:Int→Int→Prop},zaM x.1 x.2 V Sp r.1 r.2→¬ NoV x.1 x.2 V:=λt n=>by
  obtain⟨p,q,_,q0,p0,p1,v,_⟩:=t.lo
  exact n p q q0 p0 p1 v
 cases o with
 | none=>cases o' with
  | none=>rfl
  | some r=>
   obtain⟨_,t⟩:=h'.is r rfl
   exact absurd (h.no rfl) (no t)
 | some r=>
  obtain⟨_,t⟩:=h.is r rfl
  cases o' with
  | none=>exact absurd (h'.no rfl) (no t)
  | some r'=>
   obtain⟨_,t'⟩:=h'.is r' rfl
   have z:=t.same t'
   exact congrArg some (Prod.ext z.1 z.2)
theorem zbn.mono {x:Int×Int}{V V':Int→Int→Prop}{o:Option (Int×Int)}(h:zbn x V o)(hv:∀p q,0<q→(V p q↔V' p q)):zbn x V' o:=
 ⟨λe p q hq h1 h2 v=>h.no e p q hq h1 h2 ((hv p q hq).mpr v),λr e=>by
  obtain⟨Sp,t⟩:=h.is r e
  exact⟨Sp,t.mono hv λ_ _ _ z=>z⟩⟩
theorem zbn.or {x:Int×Int}{V V':Int→Int→Prop}{o o':Option (Int×Int)}(h:zbn x V o)(h':zbn x V' o'):zbn x (λp q=>V p q∨V' p q) (joS o o'):=by
 cases o with
 | none=>cases o' with
  | none=>exact⟨λ_ p q hq h1 h2 v=>v.elim (h.no rfl p q hq h1 h2) (h'.no rfl p q hq h1 h2),λr e=>(by cases e)⟩
  | some r=>exact⟨λe=>(by cases e),λs e=>by
    cases e
    obtain⟨Sp,t⟩:=h'.is r rfl
    exact⟨Sp,t.right (h.no rfl)⟩⟩
 | some r=>
  obtain⟨Sp,t⟩:=h.is r rfl
  cases o' with
  | none=>exact⟨λe=>(by cases e),λs e=>by
    cases e
    exact⟨Sp,t.left (h'.no rfl)⟩⟩
  | some r'=>
   obtain⟨Sp',t'⟩:=h'.is r' rfl
   refine⟨λe=>(by cases e),λs e=>?_⟩
   cases e
   refine⟨_,t.both t' ?_ ?_⟩
   ·dsimp only
    split <;> omega
   ·dsimp only
    split <;> omega
theorem zkN {x:Int×Int}{l h:Option (Int×Int)}(hx:x.1≤x.2)(hl:∀a,l=some a→0<a.2)(hh:∀b,h=some b→0<b.2)(lh:∀a b,l=some a→h=some b→a.1*b.2≤b.1*a.2):zbn x (PcV l h) (kpS x l h):=
 ⟨(zmD hx hl hh lh).1,λr e=>⟨_,(zmD hx hl hh lh).2 r e⟩⟩
theorem zml {z x y:Int×Int}{g:Int}(hz:z.1≤z.2)(hx:x.1≤x.2)(hy:y.1≤y.2)(hg:1≤g):zbn x (Ans (z.1*g) (z.2*g) y.1 y.2) (btS z x y g):=
 ⟨(zlC hz hx hy hg).1,λr e=>⟨_,(zlC hz hx hy hg).2 r e⟩⟩
def nrm (t b:Int):Int×Int:=if b > 0 then (t,b) else (-t,-b)
def zaU (lo hi:Int)(y:Int×Int):List (Int×Int):=[nrm lo y.1,nrm lo y.2,nrm hi y.1,nrm hi y.2]
def zln (es:List (Int×Int))(a:Int×Int):Prop:=a∈es∧∀e∈es,a.1*e.2≤e.1*a.2
def zku (es:List (Int×Int))(a:Int×Int):Prop:=a∈es∧∀e∈es,e.1*a.2≤a.1*e.2
theorem zl8 {a b c d p q:Int}(hq:0<q)(hb:0<b)(hd:0<d)(h1:a*d≤c*b)(h2:c*q≤p*d):a*q≤p*b:=by
 have e1:=mlr h1 (Vaf hq)
 have e2:=mlr h2 (Vaf hb)
 have r1:a*d*q=a*q*d:=by grind
 have r2:c*b*q=c*q*b:=by grind
 have r3:p*d*b=p*b*d:=by grind
 exact can (show a*q*d≤p*b*d by omega) hd
theorem zmb {a b c d p q:Int}(hq:0<q)(hb:0<b)(hd:0<d)(h1:c*b≤a*d)(h2:p*d≤c*q):p*b≤a*q:=by
 have e1:=mlr h1 (Vaf hq)
 have e2:=mlr h2 (Vaf hb)
 have r1:a*d*q=a*q*d:=by grind
 have r2:c*b*q=c*q*b:=by grind
 have r3:p*d*b=p*b*d:=by grind
 exact can (show p*b*d≤a*q*d by omega) hd
theorem zpp {lo hi:Int}{y a b:Int×Int}(hz:lo≤hi)(hy:y.1≤y.2)(out:y.1 > 0∨y.2<0)(ha:zln (zaU lo hi y) a)(hb:zku (zaU lo hi y) b):0<a.2∧0<b.2∧a.1*b.2≤b.1*a.2∧∀p q,0<q→(PcV (some a) (some b) p q↔Ans lo hi y.1 y.2 p q):=by
 have pos:∀e∈zaU lo hi y,0<e.2:=λe he=>by
  unfold zaU nrm at he
  simp only[Vae,Vap,or_false] at he
  rcases he with rfl | rfl | rfl | rfl <;> split <;> dsimp only <;> omega
 have a0:=pos a ha.1
 have b0:=pos b hb.1
 refine⟨a0,b0,ha.2 b hb.1,λp q hq=>?_⟩
 have lowI:a.1*q≤p*a.2↔∃e∈zaU lo hi y,e.1*q≤p*e.2:=⟨λh=>⟨a,ha.1,h⟩,λ⟨e,he,h⟩=>zl8 hq a0 (pos e he) (ha.2 e he) h⟩
 have hiI:p*b.2≤b.1*q↔∃e∈zaU lo hi y,p*e.2≤e.1*q:=⟨λh=>⟨b,hb.1,h⟩,λ⟨e,he,h⟩=>zmb hq b0 (pos e he) (hb.2 e he) h⟩
 have hlq:lo*q≤hi*q:=mlr hz (Vaf hq)
 have pc:PcV (some a) (some b) p q↔(∃e∈zaU lo hi y,e.1*q≤p*e.2)∧∃e∈zaU lo hi y,p*e.2≤e.1*q:=by
  rw[← lowI,← hiI]
  exact⟨λh=>⟨h.1 a rfl,h.2 b rfl⟩,λh=>⟨λc e=>by cases e; exact h.1,λc e=>by cases e; exact h.2⟩⟩
 rw[pc]
 unfold zaU Ans
 simp only[Vae,Vap,or_false,exists_eq_or_imp,exists_eq_left]
 rcases out with o | o
 ·have n1:∀t,nrm t y.1=(t,y.1):=λt=>if_pos (by omega)
  have n2:∀t,nrm t y.2=(t,y.2):=λt=>if_pos (by omega)
  rw[n1,n2,n1,n2]
  dsimp only
  omega
 ·have n1:∀t,nrm t y.1=(-t,-y.1):=λt=>if_neg (by omega)
  have n2:∀t,nrm t y.2=(-t,-y.2):=λt=>if_neg (by omega)
  rw[n1,n2,n1,n2]
  dsimp only
  simp only[Vai,VaM]
  omega
abbrev abI (i:Int):Int:=if i<0 then -i else i
def zaK (lo hi:Int):Int:=if hi<0 then hi else lo
def pcB (e b:Int):Option (Int×Int)×Option (Int×Int):=if decide (e > 0)=decide (b > 0) then (some (abI e,abI b),none) else (none,some (-abI e,abI b))
theorem zo1 {lo hi e b:Int}{x:Int×Int}(hx:x.1≤x.2)(hb:b≠0)(he:e≠0):zbn x (λp q=>if e > 0 then e*q≤p*b else p*b≤e*q) (kpS x (pcB e b).1 (pcB e b).2):=by
 have ab:0<abI b:=by unfold abI; split <;> omega
 by_cases c:decide (e > 0)=decide (b > 0)
 ·rw[show pcB e b=(some (abI e,abI b),none) from if_pos c]
  refine(zkN (l:=some (abI e,abI b)) (h:=none) hx (λa z=>by cases z; exact ab) (λb z=>(by cases z)) (λa b _ z=>(by cases z))).mono λp q hq=>?_
  have pc:PcV (some (abI e,abI b)) none p q↔abI e*q≤p*abI b:=⟨λh=>h.1 _ rfl,λh=>⟨λa z=>by cases z; exact h,λb z=>(by cases z)⟩⟩
  rw[pc]
  by_cases e0:e > 0
  ·have b0:b > 0:=by
    rw[decide_eq_true e0] at c
    exact of_decide_eq_true c.symm
   have q1:abI e=e:=if_neg (by omega)
   have q2:abI b=b:=if_neg (by omega)
   rw[if_pos e0,q1,q2]
  ·have b0:¬ b > 0:=by
    rw[decide_eq_false e0] at c
    exact of_decide_eq_false c.symm
   have q1:abI e=-e:=if_pos (by omega)
   have q2:abI b=-b:=if_pos (by omega)
   rw[if_neg e0,q1,q2,Vai,VaM]
   omega
 ·rw[show pcB e b=(none,some (-abI e,abI b)) from if_neg c]
  refine(zkN (l:=none) (h:=some (-abI e,abI b)) hx (λa z=>(by cases z)) (λb z=>by cases z; exact ab) (λa b z=>(by cases z))).mono λp q hq=>?_
  have pc:PcV none (some (-abI e,abI b)) p q↔p*abI b≤-abI e*q:=⟨λh=>h.2 _ rfl,λh=>⟨λa z=>(by cases z),λb z=>by cases z; exact h⟩⟩
  rw[pc]
  by_cases e0:e > 0
  ·have b0:¬ b > 0:=λz=>c (by rw[decide_eq_true e0,decide_eq_true z])
   have q1:abI e=e:=if_neg (by omega)
   have q2:abI b=-b:=if_pos (by omega)
   rw[if_pos e0,q1,q2,Vai,VaM]
   omega
  ·have b0:b > 0:=by
    by_cases z:b > 0
    ·exact z
    ·exact absurd (by rw[decide_eq_false e0,decide_eq_false z]) c
   have q1:abI e=-e:=if_pos (by omega)
   have q2:abI b=b:=if_neg (by omega)
   rw[if_neg e0,q1,q2,VaR]
def qtB (e:Int)(x:Int×Int)(b:Int):Option (Int×Int):=if b=0 then none else kpS x (pcB e b).1 (pcB e b).2
theorem zpa {lo hi:Int}{x y:Int×Int}(hx:x.1≤x.2)(hz:lo≤hi)(y0:y.1≤0)(y1:0≤y.2)(nz:lo > 0∨hi<0):zbn x (Ans lo hi y.1 y.2) (joS (qtB (zaK lo hi) x y.1) (qtB (zaK lo hi) x y.2)):=by
 have he:zaK lo hi≠0:=by unfold zaK; split <;> omega
 have one:∀b,zbn x (λp q=>b≠0∧if zaK lo hi > 0 then zaK lo hi*q≤p*b else p*b≤zaK lo hi*q) (qtB (zaK lo hi) x b):=λb=>by
  by_cases c:b=0
  ·rw[show qtB (zaK lo hi) x b=none from if_pos c]
   exact⟨λ_ p q _ _ _ v=>v.1 c,λr e=>(by cases e)⟩
  ·rw[show qtB (zaK lo hi) x b=kpS x (pcB (zaK lo hi) b).1 (pcB (zaK lo hi) b).2 from if_neg c]
   exact(zo1 (lo:=lo) (hi:=hi) hx c he).mono λp q _=>⟨λh=>⟨c,h⟩,λh=>h.2⟩
 refine((one y.1).or (one y.2)).mono λp q hq=>?_
 have m:p*y.1≤0∨p*y.2≤0:=by
  by_cases c:0≤p
  ·exact .inl (Int.mul_nonpos_of_nonneg_of_nonpos c y0)
  ·exact .inr (Int.mul_nonpos_of_nonpos_of_nonneg (by omega) y1)
 have n:0≤p*y.1∨0≤p*y.2:=by
  by_cases c:0≤p
  ·exact .inr (Van c y1)
  ·exact .inl (Int.mul_nonneg_of_nonpos_of_nonpos (by omega) y0)
 have hlq:lo*q≤hi*q:=mlr hz (Vaf hq)
 unfold Ans
 rcases nz with c | c
 ·have ee:zaK lo hi=lo:=if_neg (by omega)
  have lp:=Int.mul_pos c hq
  rw[ee,if_pos c,if_pos c]
  have k1:lo*q≤p*y.1→y.1≠0:=λh e=>by rw[e] at h; omega
  have k2:lo*q≤p*y.2→y.2≠0:=λh e=>by rw[e] at h; omega
  omega
 ·have ee:zaK lo hi=hi:=if_pos c
  have hp:hi*q<0:=Int.mul_neg_of_neg_of_pos c hq
  rw[ee,if_neg (by omega),if_neg (by omega)]
  have k1:p*y.1≤hi*q→y.1≠0:=λh e=>by rw[e] at h; omega
  have k2:p*y.2≤hi*q→y.2≠0:=λh e=>by rw[e] at h; omega
  omega
theorem znT {z x y:Int×Int}{g:Int}(hz:z.1≤z.2)(hx:x.1≤x.2)(hy:y.1≤y.2)(hg:1≤g)(y0:y.1≤0)(y1:0≤y.2)(nz:¬ (z.1≤0∧0≤z.2)):joS (qtB (zaK (z.1*g) (z.2*g)) x y.1) (qtB (zaK (z.1*g) (z.2*g)) x y.2)=btS z x y g:=by
 refine(zpa hx (mlr hz (by omega)) y0 y1 ?_).same (zml hz hx hy hg)
 by_cases c:z.1 > 0
 ·exact .inl (Int.mul_pos c (by omega))
 ·exact .inr (Int.mul_neg_of_neg_of_pos (by omega) (by omega))
theorem zpE {z x y a b:Int×Int}{g:Int}(hz:z.1≤z.2)(hx:x.1≤x.2)(hy:y.1≤y.2)(hg:1≤g)(out:y.1 > 0∨y.2<0)(ha:zln (zaU (z.1*g) (z.2*g) y) a)(hb:zku (zaU (z.1*g) (z.2*g) y) b):kpS x (some a) (some b)=btS z x y g:=by
 obtain⟨a0,b0,ab,iff⟩:=zpp (mlr hz (by omega)) hy out ha hb
 exact((zkN hx (λc e=>by cases e; exact a0) (λc e=>by cases e; exact b0) (λc d e f=>by cases e; cases f; exact ab)).mono iff).same (zml hz hx hy hg)
theorem zkG (N:Int)(n:Nat):(rt0 N n).1=rbS N n:=by
 unfold rt0
 split <;> rfl
theorem zlO (N:Int)(n:Nat):(rt0 N n).2=if (rbS N n)^n=N then rbS N n else rbS N n+1:=by
 unfold rt0
 split <;> rfl
theorem ziT {N:Int}{n:Nat}(hn:1≤n)(h0:0≤N):0≤rbS N n∧(rbS N n)^n≤N∧N<(rbS N n+1)^n:=by
 obtain⟨r,r0,r1,r2⟩:=zkD hn h0
 rw[← zeJ r0 r1 r2]
 exact⟨r0,r1,r2⟩
theorem zo6 {N r m:Int}{n:Nat}(hn:1≤n)(h0:0≤N)(r0:0≤r)(rm:r≤m)(r1:r^n≤N)(r2:r=m∨N<(r+1)^n):r=if rbS N n<m then rbS N n else m:=by
 obtain⟨b0,b1,b2⟩:=ziT hn h0
 have le:r≤rbS N n:=by
  have:=plt (n:=n) (show 0≤rbS N n+1 by omega) (Int.lt_of_le_of_lt r1 b2)
  omega
 rcases r2 with e | e
 ·subst e
  rw[if_neg (by omega)]
 ·have:=zeJ r0 r1 e
  rw[← this]
  split <;> omega
noncomputable def dnS (N:Int)(n:Nat)(m:Int):Int:=if N≥0 then (if rbS N n<m then rbS N n else m) else -(if (rt0 (-N) n).2<m+1 then (rt0 (-N) n).2 else m+1)
theorem zse {N m r:Int}{n:Nat}(hn:1≤n)(hN:N<0)(m0:0≤m)(er:r=if rbS (-N) n<m then rbS (-N) n else m):(if r^n < -N then -(r+1) else -r)=dnS N n m:=by
 obtain⟨b0,b1,b2⟩:=ziT (N:=-N) hn (by omega)
 have h2:=zlO (-N) n
 have ed:dnS N n m=-(if (rt0 (-N) n).2<m+1 then (rt0 (-N) n).2 else m+1):=if_neg (by omega)
 rw[ed,h2]
 clear ed h2
 by_cases c:rbS (-N) n<m
 ·rw[if_pos c] at er
  subst er
  by_cases d:(rbS (-N) n)^n=-N
  ·rw[if_pos d,if_neg (show ¬ (rbS (-N) n)^n < -N by omega),if_pos (show rbS (-N) n<m+1 by omega)]
  ·rw[if_neg d,if_pos (show (rbS (-N) n)^n < -N by omega)]
   split <;> omega
 ·rw[if_neg c] at er
  subst er
  by_cases e:rbS (-N) n=r
  ·rw[e] at b1 b2 ⊢
   by_cases d:r^n=-N
   ·rw[if_pos d,if_neg (show ¬ r^n < -N by omega),if_pos (show r<r+1 by omega)]
   ·rw[if_neg d,if_pos (show r^n < -N by omega)]
    split <;> omega
  ·have lt:r^n < -N:=by
    have:=zey (n:=n) m0 (show r<rbS (-N) n by omega) hn
    omega
   rw[if_pos lt]
   split <;> split <;> omega
noncomputable def rkS (x:Int×Int)(lo hi:Int)(n:Nat)(m:Int):Option (Int×Int):=if -dnS (-lo) n m > x.2∨dnS hi n m<x.1 then none else some (if dnS lo n m > x.1 then dnS lo n m else x.1,if -dnS (-hi) n m<x.2 then -dnS (-hi) n m else x.2)
theorem clA {C m:Int}(h:0≤C)(hm:1≤m):-(if C<m+1 then C else m+1)=if -C < -(m+1) then -(m+1) else if -C<m then -C else m:=by
 split <;> split <;> (try split) <;> omega
theorem clB {R m:Int}(h:0≤R)(hm:1≤m):-(if R<m then R else m)=if -R < -m then -m else if -R<m+1 then -R else m+1:=by
 split <;> split <;> (try split) <;> omega
theorem clC {R m:Int}(h:0≤R)(hm:1≤m):(if R<m then R else m)=if R < -(m+1) then -(m+1) else if R<m then R else m:=by
 rw[if_neg (show ¬ R < -(m+1) by omega)]
theorem clD {C m:Int}(h:0≤C)(hm:1≤m):-(-(if C<m+1 then C else m+1))=if C < -m then -m else if C<m+1 then C else m+1:=by
 rw[VaR,if_neg (show ¬ C < -m by omega)]
theorem zl5 {N:Int}{n:Nat}(hn:1≤n)(h0:0≤N):0≤(rt0 N n).1∧(rt0 N n).1≤(rt0 N n).2∧(rt0 N n).2≤(rt0 N n).1+1:=by
 have b0:=(ziT hn h0).1
 rw[zkG,zlO]
 split <;> omega
theorem zgG {N m:Int}{n:Nat}(h:0≤N):dnS N n m=if (rt0 N n).1<m then (rt0 N n).1 else m:=by
 rw[zkG]
 exact if_pos h
theorem znj {N m:Int}{n:Nat}(h:N<0):dnS N n m=-(if (rt0 (-N) n).2<m+1 then (rt0 (-N) n).2 else m+1):=if_neg (by omega)
theorem zpO {n:Nat}{m:Int}(hn:1≤n)(hm:1≤m)(N:Int):∃a b:Int,rtS N n=(a,b)∧a≤b∧b≤a+1∧dnS N n m=(if a < -(m+1) then -(m+1) else if a<m then a else m)∧-dnS (-N) n m=(if b < -m then -m else if b<m+1 then b else m+1):=by
 rcases Int.lt_trichotomy N 0 with c | c | c
 ·have t:=zl5 (N:=-N) hn (by omega)
  refine⟨-(rt0 (-N) n).2,-(rt0 (-N) n).1,if_pos c,by omega,by omega,?_,?_⟩
  ·rw[znj c]
   exact clA (by omega) hm
  ·rw[zgG (by omega)]
   exact clB t.1 hm
 ·subst c
  have r0:rbS 0 n=0:=(zeJ (Vaw 0) (by rw[zef hn]; omega) (by rw[Int.zero_add,Int.one_pow]; decide)).symm
  have f:(rt0 0 n).1=0:=by rw[zkG,r0]
  have g:(rt0 0 n).2=0:=by rw[zlO,r0,if_pos (zef hn)]
  refine⟨(rt0 0 n).1,(rt0 0 n).2,if_neg (by omega),by omega,by omega,?_,?_⟩
  ·rw[zgG (by omega),f]
   exact clC (by omega) hm
  ·rw[show -(0:Int)=0 from rfl,zgG (by omega),f,g,if_pos (by omega),if_neg (by omega),if_pos (by omega)]
   rfl
 ·have t:=zl5 (N:=N) hn (by omega)
  refine⟨(rt0 N n).1,(rt0 N n).2,if_neg (by omega),by omega,by omega,?_,?_⟩
  ·rw[zgG (by omega)]
   exact clC t.1 hm
  ·rw[znj (by omega),VaR N]
   exact clD (by omega) hm
theorem rk_eq {x:Int×Int}{lo hi m:Int}{n:Nat}(hn:1≤n)(hx:x.1≤x.2)(m1:x.1.natAbs+1≤m)(m2:x.2.natAbs+1≤m):rkS x lo hi n m=ptB x (rtS lo n) (rtS hi n):=by
 have key:=zpO (n:=n) (m:=m) hn (by omega)
 obtain⟨a,b,e1,o1,o2,d1,d2⟩:=key lo
 obtain⟨c,d,e2,o3,o4,d3,d4⟩:=key hi
 unfold rkS ptB
 rw[e1,e2,d1,d2,d3,d4]
 dsimp only
 by_cases c1:b > x.2
 ·rw[if_pos c1,if_pos (.inl (by split <;> (try split) <;> omega))]
 ·rw[if_neg c1]
  by_cases c2:c<x.1
  ·rw[if_pos c2,if_pos (.inr (by split <;> (try split) <;> omega))]
  ·rw[if_neg c2,if_neg (by
    rintro(z | z)
    ·revert z
     split <;> (try split) <;> omega
    ·revert z
     split <;> (try split) <;> omega)]
   congr 1
   refine Prod.ext ?_ ?_
   ·dsimp only
    split <;> split <;> (try split) <;> (try split) <;> omega
   ·dsimp only
    split <;> split <;> (try split) <;> (try split) <;> omega
theorem zrW {x l h:Int×Int}:(ptB (-x.2,-x.1) l h).map (λr=>(-r.2,-r.1))=ptB x (-h.2,-h.1) (-l.2,-l.1):=by
 unfold ptB
 dsimp only
 by_cases c1:l.2 > -x.1
 ·rw[if_pos c1]
  by_cases d:-h.1 > x.2
  ·rw[if_pos d]; rfl
  ·rw[if_neg d,if_pos (show -l.2<x.1 by omega)]; rfl
 ·rw[if_neg c1]
  by_cases c2:h.1 < -x.2
  ·rw[if_pos c2,if_pos (show -h.1 > x.2 by omega)]; rfl
  ·rw[if_neg c2,if_neg (show ¬ -h.1 > x.2 by omega),if_neg (show ¬ -l.2<x.1 by omega)]
   show some _=some _
   congr 1
   refine Prod.ext ?_ ?_
   ·dsimp only
    split <;> split <;> omega
   ·dsimp only
    split <;> split <;> omega
noncomputable def zgX (o:Option (Int×Int)):Option (Int×Int):=o.map λr=>(-r.2,-r.1)
def opD:Option (Int×Int)→D
 | none=>.non
 | some p=>frD p
def pcD (p:Option (Int×Int)×Option (Int×Int)):D:=.tup [opD p.1,opD p.2]
theorem zkY {lo hi:Int}{y:Int×Int}(hy:y.1≤y.2)(out:y.1 > 0∨y.2<0):∀e∈zaU lo hi y,0<e.2:=λe he=>by
 unfold zaU nrm at he
 simp only[Vae,Vap,or_false] at he
 rcases he with rfl | rfl | rfl | rfl <;> split <;> dsimp only <;> omega
theorem zmR {lo hi y0 y1:Int}{i j:Nat}{t b:Int}(h1:([lo,hi]:List Int)[i]?=some t)(h2:([y0,y1]:List Int)[j]?=some b):(zaU lo hi (y0,y1))[2*i+j]?=some (nrm t b):=by
 rcases i with _ | _ | i
 ·cases h1
  rcases j with _ | _ | j
  ·cases h2; rfl
  ·cases h2; rfl
  ·simp at h2
 ·cases h1
  rcases j with _ | _ | j
  ·cases h2; rfl
  ·cases h2; rfl
  ·simp at h2
 ·simp at h1
theorem zl4 {c:Prop} [Decidable c] {t b:Int}{K:DK}{S:Sto}(hc:c=(b > 0))(hK:K (frD (nrm t b)) S):if decide c=true then K (.tup [.int t,.int b]) S else K (.tup [.int (-t),.int (-b)]) S:=by
 subst hc
 unfold nrm at hK
 by_cases z:b > 0
 ·rw[if_pos z] at hK
  rw[decide_eq_true z]
  exact hK
 ·rw[if_neg z] at hK
  rw[decide_eq_false z]
  exact hK
theorem zmT {es:List (Int×Int)}{i:Nat}{a e:Int×Int}(pos:∀e∈es,0<e.2)(he:es[i]?=some e)(ha:a∈es)(hl:∀x∈es.take i,a.1*x.2≤x.1*a.2):(e.1*a.2<a.1*e.2→∀x∈es.take (i+1),e.1*x.2≤x.1*e.2)∧(¬ e.1*a.2<a.1*e.2→∀x∈es.take (i+1),a.1*x.2≤x.1*a.2):=by
 have em:=Vat he
 refine⟨λc x hx=>?_,λc x hx=>?_⟩
 ·rw[zcV he] at hx
  rcases VaH.mp hx with z | z
  ·exact zl8 (pos x (List.mem_of_mem_take z)) (pos e em) (pos a ha) (Vaf c) (hl x z)
  ·cases VaS.mp z
   exact Vaw _
 ·rw[zcV he] at hx
  rcases VaH.mp hx with z | z
  ·exact hl x z
  ·cases VaS.mp z
   omega
theorem zmQ {es:List (Int×Int)}{i:Nat}{a e:Int×Int}(pos:∀e∈es,0<e.2)(he:es[i]?=some e)(ha:a∈es)(hl:∀x∈es.take i,x.1*a.2≤a.1*x.2):(e.1*a.2 > a.1*e.2→∀x∈es.take (i+1),x.1*e.2≤e.1*x.2)∧(¬ e.1*a.2 > a.1*e.2→∀x∈es.take (i+1),x.1*a.2≤a.1*x.2):=by
 have em:=Vat he
 refine⟨λc x hx=>?_,λc x hx=>?_⟩
 ·rw[zcV he] at hx
  rcases VaH.mp hx with z | z
  ·exact zmb (pos x (List.mem_of_mem_take z)) (pos e em) (pos a ha) (Vaf c) (hl x z)
  ·cases VaS.mp z
   exact Vaw _
 ·rw[zcV he] at hx
  rcases VaH.mp hx with z | z
  ·exact hl x z
  ·cases VaS.mp z
   omega
def pcl (e:Int)(bs:List Int):List (Option (Int×Int)×Option (Int×Int)):=bs.flatMap λb=>if b=0 then [] else [pcB e b]
theorem zjL (e:Int)(bs:List Int)(b:Int):pcl e (bs++[b])=pcl e bs++if b=0 then [] else [pcB e b]:=by
 unfold pcl
 rw[List.flatMap_append]
 simp
def zjd (lo hi:Int)(y:Int×Int)(ps:List (Option (Int×Int)×Option (Int×Int))):Prop:=
 ((y.1 > 0∨y.2<0)∧∃a b,zln (zaU lo hi y) a∧zku (zaU lo hi y) b∧ps=[(some a,some b)])∨(y.1≤0∧0≤y.2)∧ps=(if y.1=0 then [] else [pcB (zaK lo hi) y.1])++if y.2=0 then [] else [pcB (zaK lo hi) y.2]
theorem zmK {a b c d:TDS}{E:zcG}{dl:Ev}{S:Sto}(W:Ev→Sto→Prop)(ha:∀nx:Ev→Sto→Prop,(∀dl' S',W dl' S'→nx dl' S')→zcg a (zcg b c) { nx:=nx,rt:=E.rt,bk:=E.bk,ct:=E.ct } dl S)(hb:∀dl' S',W dl' S'→d E dl' S'):zcg a (zcg b (zcg c d)) E dl S:=ha _ hb
theorem zpo {caps:List Nat}{tl te:TDE}{tc:TDT}{dl:Ev}{S S1:Sto}{Q:DK}{n:Nat}{o:Ob}(p:D→Bool)(f:D→D)(htl:∀K:DK,K (.ref n) S1→tl dl S K)(h1:S1[n]?=some o)(hl:(zav o).length≤1000)
  (hc:∀x∈zav o,∀(S2:Sto) (K:Bool→Sto→Prop),Pre S1 S2→K (p x) S2→tc (some x::zcm caps dl) S2 K)(ht:∀x∈zav o,p x=true→∀(S2:Sto) (K:DK),Pre S1 S2→K (f x) S2→te (some x::zcm caps dl) S2 K)
  (hq:Q (.ref S1.length) (S1++[.lst (((zav o).filter p).map f)]))(hL:zbC o=some o:=by rfl):zbD caps tl tc te dl S Q:=by
 unfold zbD
 refine htl _ ⟨by rw[za8 h1 hL]; rfl,λk m S2=>S2=S1++[.lst ((((zav o).take k).filter p).map f)]∧m+k=(zav o).length,⟨(zav o).length,by simp,by omega⟩,?_⟩
 rintro k m S2 ⟨rfl,hm⟩
 rw[za8 (zlD h1) hL]
 dsimp only
 split
 ·rename_i x hx
  have hk:k<(zav o).length:=(Vad.mp hx).1
  have hxm:=Vat hx
  have e:(zav o).take (k+1)=(zav o).take k++[x]:=by rw[List.take_succ,hx]; rfl
  unfold zdn
  refine hc x hxm _ _ Pre.refl.push ?_
  by_cases b:p x=true
  ·rw[if_pos b]
   refine ht x hxm b _ _ Pre.refl.push ?_
   rw[zaC]
   refine⟨?_,m-1,by omega,?_,by omega⟩
   ·have z1:=List.length_filter_le p ((zav o).take k)
    rw[VaQ] at z1
    rw[Vab]
    omega
   ·rw[e,List.filter_append,List.filter_cons_of_pos b,List.filter_nil,List.map_append,List.set_append_right _ _ (Vaa _)]
    simp
  ·rw[if_neg b]
   refine⟨m-1,by omega,?_,by omega⟩
   rw[e,List.filter_append,List.filter_cons_of_neg b,List.filter_nil,VaJ]
 ·rename_i hx
  have hk:(zav o).length≤k:=Vay.mp hx
  rw[List.take_of_length_le hk]
  exact hq
def hlS:List (Option (Int×Int))→Option (Int×Int)
 | []=>none
 | o::r=>joS o (hlS r)
def zeB:D→Bool
 | .non=>false
 | _=>true
theorem zfB (o:Option (Int×Int)):joS o none=o:=by cases o <;> rfl
theorem zlc:∀os:List (Option (Int×Int)),(os.map opD).filter zeB=(os.filterMap id).map frD
 | []=>rfl
 | none::r=>by
  show (opD none::r.map opD).filter zeB=_
  rw[List.filter_cons_of_neg (show ¬ zeB (opD none)=true by decide)]
  exact zlc r
 | some p::r=>by
  show (frD p::r.map opD).filter zeB=frD p::(r.filterMap id).map frD
  rw[List.filter_cons_of_pos (show zeB (frD p)=true from rfl),zlc r]
theorem zk8:∀os:List (Option (Int×Int)),(os.filterMap id=[]→hlS os=none)∧(os.filterMap id≠[]→∃L U,hlS os=some (L,U)∧L∈(os.filterMap id).map (·.1)∧(∀y∈(os.filterMap id).map (·.1),L≤y)∧U∈(os.filterMap id).map (·.2)∧∀y∈(os.filterMap id).map (·.2),y≤U)
 | []=>⟨λ_=>rfl,λh=>absurd rfl h⟩
 | none::r=>zk8 r
 | some p::r=>by
  refine⟨λh=>by simp at h,λ_=>?_⟩
  have ih:=zk8 r
  show ∃L U,joS (some p) (hlS r)=some (L,U)∧_
  have ef:(some p::r).filterMap id=p::r.filterMap id:=rfl
  rw[ef]
  by_cases c:r.filterMap id=[]
  ·rw[ih.1 c,c]
   refine⟨p.1,p.2,rfl,by simp,λy hy=>?_,by simp,λy hy=>?_⟩
   ·have:y=p.1:=by simpa using hy
    omega
   ·have:y=p.2:=by simpa using hy
    omega
  ·obtain⟨L,U,e,l1,l2,u1,u2⟩:=ih.2 c
   rw[e]
   refine⟨if L<p.1 then L else p.1,if U > p.2 then U else p.2,rfl,?_,λy hy=>?_,?_,λy hy=>?_⟩
   ·rw[Vak]
    split
    ·exact .tail _ l1
    ·exact .head _
   ·rw[Vak] at hy
    rcases Vae.mp hy with z | z
    ·split <;> omega
    ·have:=l2 y z
     split <;> omega
   ·rw[Vak]
    split
    ·exact .tail _ u1
    ·exact .head _
   ·rw[Vak] at hy
    rcases Vae.mp hy with z | z
    ·split <;> omega
    ·have:=u2 y z
     split <;> omega
theorem zsk {caps:List Nat}{tl te:TDE}{tc:TDT}{dl:Ev}{S:Sto}{Q:DK}(P:Sto→Nat→Prop)(htl:∀K:DK,(∀T m,P T m→K (.ref m) T)→tl dl S K)(h:∀T m,P T m→∀tl':TDE,(∀K:DK,K (.ref m) T→tl' dl S K)→zbD caps tl' tc te dl S Q):zbD caps tl tc te dl S Q:=by
 unfold zbD
 refine htl _ λT m p=>?_
 have z:=h T m p (λ_ _ K=>K (.ref m) T) λK hK=>hK
 unfold zbD at z
 exact z
theorem zrf {lo hi:Int}{y:Int×Int}{ps:List (Option (Int×Int)×Option (Int×Int))}(hy:y.1≤y.2)(s3:Sz 1100 y.1)(s4:Sz 1100 y.2)(h:zjd lo hi y ps):ps.length≤2∧∀pc∈ps,(∀a,pc.1=some a→0<a.2∧Sz 1100 a.2)∧∀b,pc.2=some b→0<b.2∧Sz 1100 b.2:=by
 have ab:∀b:Int,b≠0→Sz 1100 b→0<abI b∧Sz 1100 (abI b):=λb b0 sb=>by
  unfold abI
  split
  ·exact⟨by omega,sb.neg⟩
  ·exact⟨by omega,sb⟩
 have one:∀e b:Int,b≠0→Sz 1100 b→(∀a,(pcB e b).1=some a→0<a.2∧Sz 1100 a.2)∧∀a,(pcB e b).2=some a→0<a.2∧Sz 1100 a.2:=λe b b0 sb=>by
  unfold pcB
  split
  ·exact⟨λa z=>by cases z; exact ab b b0 sb,λa z=>(by cases z)⟩
  ·exact⟨λa z=>(by cases z),λa z=>by cases z; exact ab b b0 sb⟩
 rcases h with ⟨out,a,b,ha,hb,rfl⟩ | ⟨_,rfl⟩
 ·have pos:=zkY (lo:=lo) (hi:=hi) hy out
  have sz:∀e∈zaU lo hi y,Sz 1100 e.2:=λe he=>by
   unfold zaU nrm at he
   simp only[Vae,Vap,or_false] at he
   rcases he with rfl | rfl | rfl | rfl <;> split <;> first | exact s3 | exact s3.neg | exact s4 | exact s4.neg
  refine⟨by simp,λpc hp=>?_⟩
  cases VaS.mp hp
  exact⟨λc z=>by cases z; exact⟨pos _ ha.1,sz _ ha.1⟩,λc z=>by cases z; exact⟨pos _ hb.1,sz _ hb.1⟩⟩
 ·refine⟨by split <;> split <;> simp,λpc hp=>?_⟩
  rcases VaH.mp hp with z | z
  ·split at z
   ·cases z
   ·rename_i c
    cases VaS.mp z
    exact one _ _ c s3
  ·split at z
   ·cases z
   ·rename_i c
    cases VaS.mp z
    exact one _ _ c s4
theorem zpZ {z x y:Int×Int}{g:Int}{ps:List (Option (Int×Int)×Option (Int×Int))}(hz:z.1≤z.2)(hx:x.1≤x.2)(hy:y.1≤y.2)(hg:1≤g)(nb:¬ ((y.1≤0∧0≤y.2)∧z.1≤0∧0≤z.2))(h:zjd (z.1*g) (z.2*g) y ps):hlS (ps.map λpc=>kpS x pc.1 pc.2)=btS z x y g:=by
 rcases h with ⟨out,a,b,ha,hb,rfl⟩ | ⟨yy,rfl⟩
 ·show joS (kpS x (some a) (some b)) none=_
  rw[zfB]
  exact zpE hz hx hy hg out ha hb
 ·rw[← znT hz hx hy hg yy.1 yy.2 (λq=>nb ⟨yy,q⟩)]
  unfold qtB
  by_cases c1:y.1=0
  ·rw[if_pos c1,if_pos c1]
   by_cases c2:y.2=0
   ·rw[if_pos c2,if_pos c2]
    rfl
   ·rw[if_neg c2,if_neg c2]
    exact zfB _
  ·rw[if_neg c1,if_neg c1]
   by_cases c2:y.2=0
   ·rw[if_pos c2,if_pos c2]
    rfl
   ·rw[if_neg c2,if_neg c2]
    show joS _ (joS _ none)=_
    rw[zfB]
theorem zkO:∀xs:List Int,zcv (xs.map D.int)=some xs
 | []=>rfl
 | x::xs=>by
  have ih:=zkO xs
  simp only[Vak,zcv,ih] at *
  first | rfl | simp
structure zbN (K:PySem.W.Frag)(mg:Str→Option Value) where
 C:Addr
 m:mg "Times"=some (.ref C)
 cl:Cls K C
 n_other:zbd K C "other"
 n_one:zbd K C "one"
 makes:PySem.W.makesIn K C=true
 kp:PySem.W.keepIn K (.ref C)=true
structure zck (K:PySem.W.Frag)(mg:Str→Option Value) where
 C:Addr
 m:mg "Power"=some (.ref C)
 cl:Cls K C
 n_many:zbd K C "many"
 n_one:zbd K C "one"
 makes:PySem.W.makesIn K C=true
 kp:PySem.W.keepIn K (.ref C)=true
structure zcn (K:PySem.W.Frag)(mg:Str→Option Value) where
 C:Addr
 m:mg "Number"=some (.ref C)
 cl:Cls K C
 n_bottom:zbd K C "bottom"
 n_top:zbd K C "top"
 makes:PySem.W.makesIn K C=true
 kp:PySem.W.keepIn K (.ref C)=true
structure zci (K:PySem.W.Frag)(mg:Str→Option Value) where
 C:Addr
 m:mg "Unknown"=some (.ref C)
 cl:Cls K C
 n_place:zbd K C "place"
 makes:PySem.W.makesIn K C=true
 kp:PySem.W.keepIn K (.ref C)=true
structure zbO (K:PySem.W.Frag)(mg:Str→Option Value) where
 C:Addr
 m:mg "Plus"=some (.ref C)
 cl:Cls K C
 n_other:zbd K C "other"
 n_one:zbd K C "one"
 makes:PySem.W.makesIn K C=true
 kp:PySem.W.keepIn K (.ref C)=true
structure zbK (K:PySem.W.Frag)(mg:Str→Option Value) where
 C:Addr
 m:mg "Minus"=some (.ref C)
 cl:Cls K C
 n_other:zbd K C "other"
 n_one:zbd K C "one"
 makes:PySem.W.makesIn K C=true
 kp:PySem.W.keepIn K (.ref C)=true
def zgi:Sd:=λds S Q ex=>match ds with
 | [.int _]=>∀g:Int,1≤g→g≤1000000→Q (.int g) S
 | _=>False
theorem zs4:Ln (zgi) 1:=λds S Q ex h=>by unfold zgi at h; split at h <;> first | rfl | exact h.elim
def zfg:Sd:=λds S Q ex=>match ds with
 | [.ref n,.int k]=>∃ns:List Int,S[n]?=some (.frz (ns.map D.int))∧0≤k∧Q (.int (ns.getD k.toNat 0)) S
 | _=>False
theorem zpD:Ln (zfg) 2:=λds S Q ex h=>by unfold zfg at h; split at h <;> first | rfl | exact h.elim
def zen:Sd:=λds S Q ex=>match ds with
 | [.int _]=>∀lo hi:Int,lo≤hi→lo.natAbs≤10^15→hi.natAbs≤10^15→Q (.tup [.int lo,.int hi]) S
 | _=>False
theorem zo4:Ln (zen) 1:=λds S Q ex h=>by unfold zen at h; split at h <;> first | rfl | exact h.elim
def zcT:Sd:=λds S Q ex=>match ds with
 | [.int x,.int n]=>(0≤n∧n≤6∧Sz 2000 x)∧Q (.int (x^n.toNat)) S
 | _=>False
theorem zsT:Ln (zcT) 2:=λds S Q ex h=>by unfold zcT at h; split at h <;> first | rfl | exact h.elim
def ze0:Sd:=λds S Q ex=>match ds with
 | [d,.ref w,.ref p,.int g]=>∃(v:Nd) (vs bs:List (Int×Int)),d=v.d∧S[w]?=some (.lst (vs.map frD))∧S[p]?=some (.lst (bs.map frD))∧v.ok vs.length bs.length∧Spn 1400 vs∧(1≤g∧g≤1000000)∧Q (frD (v.fw vs bs g)) S
 | _=>False
theorem zpz:Ln (ze0) 4:=λds S Q ex h=>by unfold ze0 at h; split at h <;> first | rfl | exact h.elim
def ze7:Sd:=λds S Q ex=>match ds with
 | [d,.ref w,.ref p,.int g,.int _]=>∃(v:Nd) (vs bs:List (Int×Int)),d=v.d∧S[w]?=some (.lst (vs.map frD))∧S[p]?=some (.lst (bs.map frD))∧v.ok vs.length bs.length∧Spn 51 vs∧Spn 51 bs∧(1≤g∧g≤1000000)∧∀a b:Int,a≤b→Sz 390 a→Sz 390 b→Q (.tup [.int a,.int b]) S
 | _=>False
theorem znF:Ln (ze7) 5:=λds S Q ex h=>by unfold ze7 at h; split at h <;> first | rfl | exact h.elim
def zd7:Sd:=λds S Q ex=>match ds with
 | [.ref a]=>∃os:List (Option (Int×Int)),S[a]?=some (.lst (os.map opD))∧os.length≤10∧(hlS os=none→∀T:Sto,Pre S T→Q .non T)∧∀p,hlS os=some p→∀T:Sto,Pre S T→Q (frD p) T
 | _=>False
theorem zr2:Ln (zd7) 1:=λds S Q ex h=>by unfold zd7 at h; split at h <;> first | rfl | exact h.elim
def zfR:Sd:=λds S Q ex=>match ds with
 | [.tup [.int x0,.int x1],d]=>∃l h:Option (Int×Int),d=pcD (l,h)∧(Sz 1100 x0∧Sz 1100 x1)∧(∀a,l=some a→0<a.2∧Sz 1100 a.2)∧(∀b,h=some b→0<b.2∧Sz 1100 b.2)∧(kpS (x0,x1) l h=none→Q .non S)∧∀p,kpS (x0,x1) l h=some p→Q (frD p) S
 | _=>False
theorem zn2:Ln (zfR) 2:=λds S Q ex h=>by unfold zfR at h; split at h <;> first | rfl | exact h.elim
def zgv:Sd:=λds S Q ex=>match ds with
 | [.int lo,.int hi,.tup [.int y0,.int y1]]=>(y0≤y1∧Sz 1100 lo∧Sz 1100 hi∧Sz 1100 y0∧Sz 1100 y1)∧∀(T:Sto) (m:Nat) (ps:List (Option (Int×Int)×Option (Int×Int))),Pre S T→T[m]?=some (.lst (ps.map pcD))→zjd lo hi (y0,y1) ps→Q (.ref m) T
 | _=>False
theorem zrA:Ln (zgv) 3:=λds S Q ex h=>by unfold zgv at h; split at h <;> first | rfl | exact h.elim
def zfY:Sd:=λds S Q ex=>match ds with
 | [.tup [.int z0,.int z1],.tup [.int x0,.int x1],.tup [.int y0,.int y1],.int g]=>((z0≤z1∧x0≤x1∧y0≤y1)∧(1≤g∧g≤1000000)∧Sz 1000 z0∧Sz 1000 z1∧Sz 1000 x0∧Sz 1000 x1∧Sz 1000 y0∧Sz 1000 y1)∧(btS (z0,z1) (x0,x1) (y0,y1) g=none→∀T:Sto,Pre S T→Q .non T)∧∀p,btS (z0,z1) (x0,x1) (y0,y1) g=some p→∀T:Sto,Pre S T→Q (frD p) T
 | _=>False
theorem zqQ:Ln (zfY) 4:=λds S Q ex h=>by unfold zfY at h; split at h <;> first | rfl | exact h.elim
def zgd:Sd:=λds S Q ex=>match ds with
 | [.int N,.int n,.int m]=>(2≤n∧n≤6∧0≤N∧0≤m∧Sz 1100 m)∧Q (.int (if rbS N n.toNat<m then rbS N n.toNat else m)) S
 | _=>False
theorem zoK:Ln (zgd) 3:=λds S Q ex h=>by unfold zgd at h; split at h <;> first | rfl | exact h.elim
def zff:Sd:=λds S Q ex=>match ds with
 | [.int N,.int n,.int m]=>(2≤n∧n≤6∧0≤m∧Sz 1100 m)∧Q (.int (dnS N n.toNat m)) S
 | _=>False
theorem zq8:Ln (zff) 3:=λds S Q ex h=>by unfold zff at h; split at h <;> first | rfl | exact h.elim
def zfb:Sd:=λds S Q ex=>match ds with
 | [.tup [.int x0,.int x1],.int lo,.int hi,.int n]=>(2≤n∧n≤6∧x0≤x1∧Sz 1000 x0∧Sz 1000 x1)∧(ptB (x0,x1) (rtS lo n.toNat) (rtS hi n.toNat)=none→Q .non S)∧∀p,ptB (x0,x1) (rtS lo n.toNat) (rtS hi n.toNat)=some p→Q (frD p) S
 | _=>False
theorem zp6:Ln (zfb) 4:=λds S Q ex h=>by unfold zfb at h; split at h <;> first | rfl | exact h.elim
def zgm:Sd:=λds S Q ex=>match ds with
 | [.tup [.int z0,.int z1],.tup [.int x0,.int x1],.int n,.int g]=>(2≤n∧n≤6∧(1≤g∧g≤1000000)∧x0≤x1∧Sz 1000 z0∧Sz 1000 z1∧Sz 1000 x0∧Sz 1000 x1)∧(bpS (z0,z1) (x0,x1) n g=none→∀T:Sto,Pre S T→Q .non T)∧∀p,bpS (z0,z1) (x0,x1) n g=some p→∀T:Sto,Pre S T→Q (frD p) T
 | _=>False
theorem zqr:Ln (zgm) 4:=λds S Q ex h=>by unfold zgm at h; split at h <;> first | rfl | exact h.elim
def zga:Sd:=λds S Q ex=>match ds with
 | [d,.ref w,.tup [.int z0,.int z1],.int g]=>∃(v:Nd) (vs:List (Int×Int)) (q:Int),((∃i j,v=Nd.times i j)∨∃i n,v=Nd.power i n)∧d=v.d∧S[w]?=some (.lst (vs.map frD))∧v.ok vs.length q∧Spn 1000 vs∧(z0≤z1∧Sz 1000 z0∧Sz 1000 z1)∧(1≤g∧g≤1000000)∧(v.bk vs (z0,z1) g=none→∀T:Sto,Pre S T→Q .non T)∧∀l,v.bk vs (z0,z1) g=some l→∀(T:Sto) (m:Nat),Pre S T→T[m]?=some (.lst (l.map ptD))→Q (.ref m) T
 | _=>False
theorem zox:Ln (zga) 4:=λds S Q ex h=>by unfold zga at h; split at h <;> first | rfl | exact h.elim
def zdX (cTimes:Addr):Sd:=λds S Q ex=>match ds with
 | [.ref n,x,y]=>∃T:Sto,S=T++[.ins cTimes []]∧n=T.length∧Q .non (T++[.ins cTimes [("one",x),("other",y)]])
 | _=>False
theorem zpv (cTimes:Addr):Ln (zdX cTimes) 3:=λds S Q ex h=>by unfold zdX at h; split at h <;> first | rfl | exact h.elim
def zel (cPower:Addr):Sd:=λds S Q ex=>match ds with
 | [.ref n,x,y]=>∃T:Sto,S=T++[.ins cPower []]∧n=T.length∧Q .non (T++[.ins cPower [("one",x),("many",y)]])
 | _=>False
theorem zrd (cPower:Addr):Ln (zel cPower) 3:=λds S Q ex h=>by unfold zel at h; split at h <;> first | rfl | exact h.elim
def zeC (cNumber:Addr):Sd:=λds S Q ex=>match ds with
 | [.ref n,x,y]=>∃T:Sto,S=T++[.ins cNumber []]∧n=T.length∧Q .non (T++[.ins cNumber [("top",x),("bottom",y)]])
 | _=>False
theorem zr9 (cNumber:Addr):Ln (zeC cNumber) 3:=λds S Q ex h=>by unfold zeC at h; split at h <;> first | rfl | exact h.elim
def zec (cUnknown:Addr):Sd:=λds S Q ex=>match ds with
 | [.ref n,x]=>∃T:Sto,S=T++[.ins cUnknown []]∧n=T.length∧Q .non (T++[.ins cUnknown [("place",x)]])
 | _=>False
theorem znH (cUnknown:Addr):Ln (zec cUnknown) 2:=λds S Q ex h=>by unfold zec at h; split at h <;> first | rfl | exact h.elim
def zem (cPlus:Addr):Sd:=λds S Q ex=>match ds with
 | [.ref n,x,y]=>∃T:Sto,S=T++[.ins cPlus []]∧n=T.length∧Q .non (T++[.ins cPlus [("one",x),("other",y)]])
 | _=>False
theorem zoQ (cPlus:Addr):Ln (zem cPlus) 3:=λds S Q ex h=>by unfold zem at h; split at h <;> first | rfl | exact h.elim
def zd2 (cMinus:Addr):Sd:=λds S Q ex=>match ds with
 | [.ref n,x,y]=>∃T:Sto,S=T++[.ins cMinus []]∧n=T.length∧Q .non (T++[.ins cMinus [("one",x),("other",y)]])
 | _=>False
theorem zoH (cMinus:Addr):Ln (zd2 cMinus) 3:=λds S Q ex h=>by unfold zd2 at h; split at h <;> first | rfl | exact h.elim
def zfq (cNumber:Addr)(cUnknown:Addr)(cPlus:Addr)(cMinus:Addr)(cTimes:Addr)(cPower:Addr):Sd:=λds S Q ex=>match ds with
 | [d]=>∃v:Nd,d=v.d∧Q (.ref S.length) (S++[v.ob cNumber cUnknown cPlus cMinus cTimes cPower])
 | _=>False
theorem znM (cNumber:Addr)(cUnknown:Addr)(cPlus:Addr)(cMinus:Addr)(cTimes:Addr)(cPower:Addr):Ln (zfq cNumber cUnknown cPlus cMinus cTimes cPower) 1:=λds S Q ex h=>by unfold zfq at h; split at h <;> first | rfl | exact h.elim
def zgp (cNumber:Addr)(cUnknown:Addr)(cPlus:Addr)(cMinus:Addr)(cTimes:Addr)(cPower:Addr):Sd:=λds S Q ex=>match ds with
 | [d,.bl _]=>∃v:Nd,d=v.d∧Q (.ref S.length) (S++[v.ob cNumber cUnknown cPlus cMinus cTimes cPower])
 | _=>False
theorem zsh (cNumber:Addr)(cUnknown:Addr)(cPlus:Addr)(cMinus:Addr)(cTimes:Addr)(cPower:Addr):Ln (zgp cNumber cUnknown cPlus cMinus cTimes cPower) 2:=λds S Q ex h=>by unfold zgp at h; split at h <;> first | rfl | exact h.elim
def zdT:Sd:=λds S Q ex=>match ds with
 | [.int _]=>Q (.bl true) S
 | _=>False
theorem zra:Ln (zdT) 1:=λds S Q ex h=>by unfold zdT at h; split at h <;> first | rfl | exact h.elim
def zfZ:Sd:=λds S Q ex=>match ds with
 | [.tup [.int a,.int b]]=>a≤b∧Q (.bl true) S
 | _=>False
theorem zn0:Ln (zfZ) 1:=λds S Q ex h=>by unfold zfZ at h; split at h <;> first | rfl | exact h.elim
def zf3:Sd:=λds S Q ex=>match ds with
 | [.non,.non]=>Q (.bl true) S
 | [.ref a,.ref b]=>∃l:List (Int×(Int×Int)),S[a]?=some (.lst (l.map ptD))∧S[b]?=some (.lst (l.map ptD))∧(∀q∈l,q.2.1≤q.2.2)∧l.length≤10∧Q (.bl true) S
 | _=>False
theorem zqR:Ln (zf3) 2:=λds S Q ex h=>by unfold zf3 at h; split at h <;> first | rfl | exact h.elim
def zeK (cNumber:Addr)(cUnknown:Addr)(cPlus:Addr)(cMinus:Addr)(cTimes:Addr)(cPower:Addr):Sd:=λds S Q ex=>match ds with
 | [.ref n,.ref w,.tup [.int z0,.int z1],.int g]=>∃(x y:Int) (vs:List (Int×Int)) (q:Int),S[n]?=some (Nd.ob cNumber cUnknown cPlus cMinus cTimes cPower (Nd.number x y))∧S[w]?=some (.lst (vs.map frD))∧Nd.ok vs.length q (Nd.number x y)∧Spn 1000 vs∧(z0≤z1∧Sz 1000 z0∧Sz 1000 z1)∧(1≤g∧g≤1000000)∧(Nd.bk vs (z0,z1) g (Nd.number x y)=none→Q .non S)∧∀l,Nd.bk vs (z0,z1) g (Nd.number x y)=some l→Q (.ref S.length) (S++[.lst (l.map ptD)])
 | _=>False
theorem zrV (cNumber:Addr)(cUnknown:Addr)(cPlus:Addr)(cMinus:Addr)(cTimes:Addr)(cPower:Addr):Ln (zeK cNumber cUnknown cPlus cMinus cTimes cPower) 4:=λds S Q ex h=>by unfold zeK at h; split at h <;> first | rfl | exact h.elim
def zd5 (cNumber:Addr)(cUnknown:Addr)(cPlus:Addr)(cMinus:Addr)(cTimes:Addr)(cPower:Addr):Sd:=λds S Q ex=>match ds with
 | [.ref n,.ref w,.tup [.int z0,.int z1],.int g]=>∃(k:Int) (vs:List (Int×Int)) (q:Int),S[n]?=some (Nd.ob cNumber cUnknown cPlus cMinus cTimes cPower (Nd.unknown k))∧S[w]?=some (.lst (vs.map frD))∧Nd.ok vs.length q (Nd.unknown k)∧Spn 1000 vs∧(z0≤z1∧Sz 1000 z0∧Sz 1000 z1)∧(1≤g∧g≤1000000)∧(Nd.bk vs (z0,z1) g (Nd.unknown k)=none→Q .non S)∧∀l,Nd.bk vs (z0,z1) g (Nd.unknown k)=some l→Q (.ref S.length) (S++[.lst (l.map ptD)])
 | _=>False
theorem zsj (cNumber:Addr)(cUnknown:Addr)(cPlus:Addr)(cMinus:Addr)(cTimes:Addr)(cPower:Addr):Ln (zd5 cNumber cUnknown cPlus cMinus cTimes cPower) 4:=λds S Q ex h=>by unfold zd5 at h; split at h <;> first | rfl | exact h.elim
def zc3:Sd:=λds S Q ex=>match ds with
 | [.tup [.int a,.int b],.tup [.int c,.int d]]=>(zaW (a,b) (c,d)=none→Q .non S)∧∀p,zaW (a,b) (c,d)=some p→Q (frD p) S
 | _=>False
theorem zn6:Ln (zc3) 2:=λds S Q ex h=>by unfold zc3 at h; split at h <;> first | rfl | exact h.elim
def zdw:Sd:=λds S Q ex=>match ds with
 | [.tup [.int a,.int b],.tup [.int c,.int d]]=>Q (.tup [.int (a-d),.int (b-c)]) S
 | _=>False
theorem zqe:Ln (zdw) 2:=λds S Q ex h=>by unfold zdw at h; split at h <;> first | rfl | exact h.elim
def zf4:Sd:=λds S Q ex=>match ds with
 | [.ref _,.tup [.int z0,.int z1],.tup [.int x0,.int x1],.tup [.int y0,.int y1],.int _]=>(zaW (x0,x1) (z0-y1,z1-y0)=none→Q .non S)∧∀p,zaW (x0,x1) (z0-y1,z1-y0)=some p→Q (frD p) S
 | _=>False
theorem zsz:Ln (zf4) 5:=λds S Q ex h=>by unfold zf4 at h; split at h <;> first | rfl | exact h.elim
def zfL:Sd:=λds S Q ex=>match ds with
 | [.ref _,.tup [.int z0,.int z1],.tup [.int x0,.int x1],.tup [.int y0,.int y1],.int _]=>(zaW (y0,y1) (z0-x1,z1-x0)=none→Q .non S)∧∀p,zaW (y0,y1) (z0-x1,z1-x0)=some p→Q (frD p) S
 | _=>False
theorem zpu:Ln (zfL) 5:=λds S Q ex h=>by unfold zfL at h; split at h <;> first | rfl | exact h.elim
def zd3 (cNumber:Addr)(cUnknown:Addr)(cPlus:Addr)(cMinus:Addr)(cTimes:Addr)(cPower:Addr):Sd:=λds S Q ex=>match ds with
 | [.ref n,.ref w,.tup [.int z0,.int z1],.int g]=>∃(i j:Int) (vs:List (Int×Int)) (q:Int),S[n]?=some (Nd.ob cNumber cUnknown cPlus cMinus cTimes cPower (Nd.plus i j))∧S[w]?=some (.lst (vs.map frD))∧Nd.ok vs.length q (Nd.plus i j)∧Spn 1000 vs∧(z0≤z1∧Sz 1000 z0∧Sz 1000 z1)∧(1≤g∧g≤1000000)∧(Nd.bk vs (z0,z1) g (Nd.plus i j)=none→Q .non S)∧∀l,Nd.bk vs (z0,z1) g (Nd.plus i j)=some l→Q (.ref S.length) (S++[.lst (l.map ptD)])
 | _=>False
theorem zrN (cNumber:Addr)(cUnknown:Addr)(cPlus:Addr)(cMinus:Addr)(cTimes:Addr)(cPower:Addr):Ln (zd3 cNumber cUnknown cPlus cMinus cTimes cPower) 4:=λds S Q ex h=>by unfold zd3 at h; split at h <;> first | rfl | exact h.elim
def ze1:Sd:=λds S Q ex=>match ds with
 | [.tup [.int a,.int b],.tup [.int c,.int d]]=>Q (.tup [.int (a+c),.int (b+d)]) S
 | _=>False
theorem zoE:Ln (ze1) 2:=λds S Q ex h=>by unfold ze1 at h; split at h <;> first | rfl | exact h.elim
def ze6:Sd:=λds S Q ex=>match ds with
 | [.ref _,.tup [.int z0,.int z1],.tup [.int x0,.int x1],.tup [.int y0,.int y1],.int _]=>(zaW (x0,x1) (z0+y0,z1+y1)=none→Q .non S)∧∀p,zaW (x0,x1) (z0+y0,z1+y1)=some p→Q (frD p) S
 | _=>False
theorem zpk:Ln (ze6) 5:=λds S Q ex h=>by unfold ze6 at h; split at h <;> first | rfl | exact h.elim
def zfe:Sd:=λds S Q ex=>match ds with
 | [.ref _,.tup [.int z0,.int z1],.tup [.int x0,.int x1],.tup [.int y0,.int y1],.int _]=>(zaW (y0,y1) (x0-z1,x1-z0)=none→Q .non S)∧∀p,zaW (y0,y1) (x0-z1,x1-z0)=some p→Q (frD p) S
 | _=>False
theorem zpX:Ln (zfe) 5:=λds S Q ex h=>by unfold zfe at h; split at h <;> first | rfl | exact h.elim
def zdM (cNumber:Addr)(cUnknown:Addr)(cPlus:Addr)(cMinus:Addr)(cTimes:Addr)(cPower:Addr):Sd:=λds S Q ex=>match ds with
 | [.ref n,.ref w,.tup [.int z0,.int z1],.int g]=>∃(i j:Int) (vs:List (Int×Int)) (q:Int),S[n]?=some (Nd.ob cNumber cUnknown cPlus cMinus cTimes cPower (Nd.minus i j))∧S[w]?=some (.lst (vs.map frD))∧Nd.ok vs.length q (Nd.minus i j)∧Spn 1000 vs∧(z0≤z1∧Sz 1000 z0∧Sz 1000 z1)∧(1≤g∧g≤1000000)∧(Nd.bk vs (z0,z1) g (Nd.minus i j)=none→Q .non S)∧∀l,Nd.bk vs (z0,z1) g (Nd.minus i j)=some l→Q (.ref S.length) (S++[.lst (l.map ptD)])
 | _=>False
theorem znV (cNumber:Addr)(cUnknown:Addr)(cPlus:Addr)(cMinus:Addr)(cTimes:Addr)(cPower:Addr):Ln (zdM cNumber cUnknown cPlus cMinus cTimes cPower) 4:=λds S Q ex h=>by unfold zdM at h; split at h <;> first | rfl | exact h.elim
def zf7:Sd:=λds S Q ex=>match ds with
 | [.tup [.int a,.int b]]=>Q (.bl (decide (a≤0)&&decide (0≤b))) S
 | _=>False
theorem zqq:Ln (zf7) 1:=λds S Q ex h=>by unfold zf7 at h; split at h <;> first | rfl | exact h.elim
def zdL:Sd:=λds S Q ex=>match ds with
 | [.tup [.int x0,.int x1],.tup [.int l0,.int l1],.tup [.int h0,.int h1]]=>(ptB (x0,x1) (l0,l1) (h0,h1)=none→Q .non S)∧∀p,ptB (x0,x1) (l0,l1) (h0,h1)=some p→Q (frD p) S
 | _=>False
theorem zqY:Ln (zdL) 3:=λds S Q ex h=>by unfold zdL at h; split at h <;> first | rfl | exact h.elim
def zeZ:Sd:=λds S Q ex=>match ds with
 | [.int t,.int b]=>CFd 0 b∧Q (.int (-(-t/b))) S
 | _=>False
theorem zpf:Ln (zeZ) 2:=λds S Q ex h=>by unfold zeZ at h; split at h <;> first | rfl | exact h.elim
def zf1:Sd:=λds S Q ex=>match ds with
 | [.int t,.int b]=>CFd 0 b∧Q (.tup [.int (t/b),.int (-(-t/b))]) S
 | _=>False
theorem zro:Ln (zf1) 2:=λds S Q ex h=>by unfold zf1 at h; split at h <;> first | rfl | exact h.elim
def zfO:Sd:=λds S Q ex=>match ds with
 | [.tup [.int lo,.int hi],.tup [.int x0,.int x1],.tup [.int c,.int d]]=>(0≤c∧0<d∧Sz 1400 c∧Sz 1400 d)∧(sdS lo hi (x0,x1) c d=none→Q .non S)∧∀p,sdS lo hi (x0,x1) c d=some p→Q (frD p) S
 | _=>False
theorem zor:Ln (zfO) 3:=λds S Q ex h=>by unfold zfO at h; split at h <;> first | rfl | exact h.elim
def ze4:Sd:=λds S Q ex=>match ds with
 | [.tup [.int a,.int b],.tup [.int c,.int d]]=>Q (.tup [.int (if c<a then c else a),.int (if d > b then d else b)]) S
 | _=>False
theorem znU:Ln (ze4) 2:=λds S Q ex h=>by unfold ze4 at h; split at h <;> first | rfl | exact h.elim
def zdQ:Sd:=λds S Q ex=>match ds with
 | [.non,y]=>Q y S
 | [.tup [.int a,.int b],.non]=>Q (.tup [.int a,.int b]) S
 | [.tup [.int a,.int b],.tup [.int c,.int d]]=>Q (.tup [.int (if c<a then c else a),.int (if d > b then d else b)]) S
 | _=>False
theorem zrp:Ln (zdQ) 2:=λds S Q ex h=>by unfold zdQ at h; split at h <;> first | rfl | exact h.elim
def zda:Sd:=λds S Q ex=>match ds with
 | [.tup [.int a,.int b]]=>Q (.tup [.int (-b),.int (-a)]) S
 | _=>False
theorem zrP:Ln (zda) 1:=λds S Q ex h=>by unfold zda at h; split at h <;> first | rfl | exact h.elim
def zed:Sd:=λds S Q ex=>match ds with
 | [.tup [.int z0,.int z1],.tup [.int x0,.int x1],.tup [.int y0,.int y1],.int g]=>(y0≤y1∧Sz 1100 z0∧Sz 1100 z1∧Sz 1100 y0∧Sz 1100 y1∧Sz 30 g)∧(btS (z0,z1) (x0,x1) (y0,y1) g=none→Q .non S)∧∀p,btS (z0,z1) (x0,x1) (y0,y1) g=some p→Q (frD p) S
 | _=>False
theorem zpN:Ln (zed) 4:=λds S Q ex h=>by unfold zed at h; split at h <;> first | rfl | exact h.elim
def zft:Sd:=λds S Q ex=>match ds with
 | [.ref _,.tup [.int z0,.int z1],.tup [.int x0,.int x1],.tup [.int y0,.int y1],.int g]=>(y0≤y1∧Sz 1100 z0∧Sz 1100 z1∧Sz 1100 y0∧Sz 1100 y1∧Sz 30 g)∧(btS (z0,z1) (x0,x1) (y0,y1) g=none→Q .non S)∧∀p,btS (z0,z1) (x0,x1) (y0,y1) g=some p→Q (frD p) S
 | _=>False
theorem zsA:Ln (zft) 5:=λds S Q ex h=>by unfold zft at h; split at h <;> first | rfl | exact h.elim
def zeW:Sd:=λds S Q ex=>match ds with
 | [.ref _,.tup [.int z0,.int z1],.tup [.int x0,.int x1],.tup [.int y0,.int y1],.int g]=>(x0≤x1∧Sz 1100 z0∧Sz 1100 z1∧Sz 1100 x0∧Sz 1100 x1∧Sz 30 g)∧(btS (z0,z1) (y0,y1) (x0,x1) g=none→Q .non S)∧∀p,btS (z0,z1) (y0,y1) (x0,x1) g=some p→Q (frD p) S
 | _=>False
theorem zqy:Ln (zeW) 5:=λds S Q ex h=>by unfold zeW at h; split at h <;> first | rfl | exact h.elim
def zeE (cNumber:Addr)(cUnknown:Addr)(cPlus:Addr)(cMinus:Addr)(cTimes:Addr)(cPower:Addr):Sd:=λds S Q ex=>match ds with
 | [.ref n,.ref w,.tup [.int z0,.int z1],.int g]=>∃(i j:Int) (vs:List (Int×Int)) (q:Int),S[n]?=some (Nd.ob cNumber cUnknown cPlus cMinus cTimes cPower (Nd.times i j))∧S[w]?=some (.lst (vs.map frD))∧Nd.ok vs.length q (Nd.times i j)∧Spn 1000 vs∧(z0≤z1∧Sz 1000 z0∧Sz 1000 z1)∧(1≤g∧g≤1000000)∧(Nd.bk vs (z0,z1) g (Nd.times i j)=none→Q .non S)∧∀l,Nd.bk vs (z0,z1) g (Nd.times i j)=some l→Q (.ref S.length) (S++[.lst (l.map ptD)])
 | _=>False
theorem zoU (cNumber:Addr)(cUnknown:Addr)(cPlus:Addr)(cMinus:Addr)(cTimes:Addr)(cPower:Addr):Ln (zeE cNumber cUnknown cPlus cMinus cTimes cPower) 4:=λds S Q ex h=>by unfold zeE at h; split at h <;> first | rfl | exact h.elim
def zcS:Sd:=λds S Q ex=>match ds with
 | [.int x,.int n]=>(0≤n∧n≤6∧Sz 2000 x)∧Q (.int (x^n.toNat)) S
 | _=>False
theorem zrq:Ln (zcS) 2:=λds S Q ex h=>by unfold zcS at h; split at h <;> first | rfl | exact h.elim
def zgf:Sd:=λds S Q ex=>match ds with
 | [.int g,.int N,.int n]=>(2≤n∧n≤6∧0<g∧Sz 800 g)∧Q (.int (((n-1)*g+N/g^(n-1).toNat)/n)) S
 | _=>False
theorem zo8:Ln (zgf) 3:=λds S Q ex h=>by unfold zgf at h; split at h <;> first | rfl | exact h.elim
def zep:Sd:=λds S Q ex=>match ds with
 | [.int N,.int n]=>(2≤n∧n≤6∧0≤N∧Sz 1300 N)∧∀r:Int,0≤r→Sz 800 r→r^n.toNat≤N→N<(r+1)^n.toNat→Q (.int r) S
 | _=>False
theorem zoR:Ln (zep) 2:=λds S Q ex h=>by unfold zep at h; split at h <;> first | rfl | exact h.elim
def zfU:Sd:=λds S Q ex=>match ds with
 | [.int N,.int n]=>(2≤n∧n≤6∧0≤N∧Sz 1300 N)∧Q (frD (rt0 N n.toNat)) S
 | _=>False
theorem zqz:Ln (zfU) 2:=λds S Q ex h=>by unfold zfU at h; split at h <;> first | rfl | exact h.elim
def zf5:Sd:=λds S Q ex=>match ds with
 | [.int N,.int n]=>(2≤n∧n≤6∧(n%2=1∨0≤N)∧Sz 1300 N)∧Q (frD (rtS N n.toNat)) S
 | _=>False
theorem zoM:Ln (zf5) 2:=λds S Q ex h=>by unfold zf5 at h; split at h <;> first | rfl | exact h.elim
def zfK:Sd:=λds S Q ex=>match ds with
 | [.tup [.int z0,.int z1],.tup [.int x0,.int x1],.int n,.int g]=>(2≤n∧n≤6∧1≤g∧Sz 30 g∧Sz 1100 z0∧Sz 1100 z1)∧(bpS (z0,z1) (x0,x1) n g=none→Q .non S)∧∀p,bpS (z0,z1) (x0,x1) n g=some p→Q (frD p) S
 | _=>False
theorem zpW:Ln (zfK) 4:=λds S Q ex h=>by unfold zfK at h; split at h <;> first | rfl | exact h.elim
def zeA (cNumber:Addr)(cUnknown:Addr)(cPlus:Addr)(cMinus:Addr)(cTimes:Addr)(cPower:Addr):Sd:=λds S Q ex=>match ds with
 | [.ref n,.ref w,.tup [.int z0,.int z1],.int g]=>∃(i m:Int) (vs:List (Int×Int)) (q:Int),S[n]?=some (Nd.ob cNumber cUnknown cPlus cMinus cTimes cPower (Nd.power i m))∧S[w]?=some (.lst (vs.map frD))∧Nd.ok vs.length q (Nd.power i m)∧Spn 1000 vs∧(z0≤z1∧Sz 1000 z0∧Sz 1000 z1)∧(1≤g∧g≤1000000)∧(Nd.bk vs (z0,z1) g (Nd.power i m)=none→Q .non S)∧∀l,Nd.bk vs (z0,z1) g (Nd.power i m)=some l→Q (.ref S.length) (S++[.lst (l.map ptD)])
 | _=>False
theorem zqb (cNumber:Addr)(cUnknown:Addr)(cPlus:Addr)(cMinus:Addr)(cTimes:Addr)(cPower:Addr):Ln (zeA cNumber cUnknown cPlus cMinus cTimes cPower) 4:=λds S Q ex h=>by unfold zeA at h; split at h <;> first | rfl | exact h.elim
section
variable {P:Program}{w:World}{K:PySem.W.Frag}{mg:Str→Option Value}{base:Heap}
def zpw  (ziB:Df K mg "_law_grid" ziI zfs):Fk P w K mg base 1 "_law_grid" zfs zgi:=
 ziB.mk' (zkP (zaA (k:=0) ziB.F zmv (zlA (zs4)) λcdv A outer s H E hr=>⟨_,(zae (zal (i:=1) zmv.nd rfl (Or.inl rfl) (zag zbu (dv 0) (zag zeP zab zab))) (zaf (zak (zag za5 zab (zag zbu (zag zbu (zag zaN (zag zbq (dv 1) zab) zab) zab) (za1 (zbe (zaa zab (zaa zab (zaa zab (zaa zab zac))))) (zag zbf (dv 1) zab) (λ_ _=>rfl))))))),λds S Q ex h=>by
  obtain⟨Q0,ex0,rfl,rfl,h⟩:=h
  unfold zgi at h
  split at h
  ·rename_i c
   have r0:=zbZ (a:=c) (b:=10^Int.toNat 20) (by decide)
   have e20:(10:Int)^Int.toNat 20=100000000000000000000:=rfl
   have s0:Sz 70 (c%10^Int.toNat 20):=Sz.of (10^20) (by omega)
   have mo:=zaD (m:=70) (n:=17) (s0.div (j:=4) (by decide)) (j:=48271) (by unfold Sz; decide)
   refine⟨show (0:Int)<10^Int.toNat 20 by decide,mo,show (0:Int)<2147483647 by decide,?_⟩
   have four:∀i:Int,inR 4 i→∃x:Int,(1≤x∧x≤1000000)∧atI [D.int 1,D.int 12,D.int 1000,D.int 1000000] i=some (.int x):=λi hi=>by
    obtain⟨h0,h3⟩:=hi
    have z:i=0∨i=1∨i=2∨i=3:=by omega
    rcases z with rfl | rfl | rfl | rfl
    ·exact⟨_,by decide,rfl⟩
    ·exact⟨_,by decide,rfl⟩
    ·exact⟨_,by decide,rfl⟩
    ·exact⟨_,by decide,rfl⟩
   obtain⟨x,hx,ex'⟩:=four (c%10^Int.toNat 20%4) (zbZ (by decide))
   refine zaJ (o:=.lst [.int 1,.int 12,.int 1000,.int 1000000]) (zaC _ _) ex' ?_
   have px:0<x:=by omega
   have rx:=zbZ (a:=c%10^Int.toNat 20/4*48271%2147483647) px
   exact⟨px,Pre.refl.push,.int _,h _ (by omega) (by omega)⟩
  ·exact h.elim⟩))
def zsa  (zju:Df K mg "_law_cell" ziS zfp)(za2:mg "len"=none):Fk P w K mg base 1 "_law_cell" zfp zfg:=
 zju.mk' (zaA (k:=0) zju.F zs2 (zpD) λcdv A outer s H E hr=>⟨_,(zae (zas (zan zbp (dv 1) (zaH zcr rfl za2 Boot.«len» (zaa (dv 0) zac)) (zam _)) (zaf (zak (zad (dv 0) (dv 1) (λ_ _=>rfl)))) zau) (zaf (zak zab))),λds S Q ex h=>by
  unfold zfg at h
  split at h
  ·rename_i n k
   obtain⟨ns,h1,h2,h3⟩:=h
   simp only[zkt,zcg,znz,dRet,dRetN,dIf,zjQ,zjM,dC,dOp,dUn,wI,wI0,wIf,zhC,dNot,dAnd,dOr,zmS,dOrV,zmm,dIfE,zjW,dNil,zmH,dTup,dLst,wIx,zhR,ziZ,znb,wAbs,zdF,zeo,wEq,wNe,wIsN,zmz,wNeg,zex,Vak,List.map_nil,VaP,List.length_nil,List.cons_append,List.nil_append,Nat.reduceAdd,Nat.reduceSub,List.replicate,List.getElem?_cons_zero,List.getElem?_cons_succ,List.set_cons_zero,List.set_cons_succ,ite_true,ite_false,if_true,if_false,Nat.reduceLeDiff,eq_self,p40,p41,p20,zgr,powB,Int.reduceLT,Int.reduceLE,Int.reduceNeg,decide_true,Bool.and_self,Bool.and_true,Bool.true_and,L3.eq1,L3.eq2,L3.eqT,L3.eqF,L3.eqL]
   have hA:lAt S n=some (.frz (ns.map D.int)):=za8 h1 rfl
   simp only[hA,zav,Vab]
   refine zfc (λc=>?_) (λc=>?_)
   ·have c':k<(ns.length:Int):=of_decide_eq_true c
    have hk:k.toNat<ns.length:=(by omega)
    have e:atI (ns.map D.int) k=some (.int ns[k.toNat]):=by
     have z:=zeh (xs:=ns.map D.int) (j:=k.toNat) (v:=.int ns[k.toNat]) (by simp[hk])
     rw[show ((k.toNat:Nat):Int)=k by omega] at z
     exact z
    simp only[e]
    rw[VaC,VaB hk] at h3
    exact h3
   ·have c':¬ k<(ns.length:Int):=λz=>c (decide_eq_true z)
    rw[VaC,List.getElem?_eq_none (by omega)] at h3
    exact h3
  ·exact h.elim⟩)
def zrE  (zgP:Df K mg "_law_span" zhq zdR)(zaX:mg "min"=none):Fk P w K mg base 1 "_law_span" zdR zen:=
 zgP.mk' (zaA (k:=0) zgP.F zc5 (zo4) λcdv A outer s H E hr=>⟨_,(zae (zal (i:=1) zc5.nd rfl (Or.inl rfl) (zag zbu (dv 0) (zag zeP zab zab))) (zae (zal (i:=2) zc5.nd rfl (Or.inl rfl) (zag zbf (dv 1) zab)) (zae (zal (i:=1) zc5.nd rfl (Or.inl rfl) (zag zbq (dv 1) zab)) (zae (zas (zan (zaI hr) (dv 2) zab (zam _)) (zae (zal (i:=3) zc5.nd rfl (Or.inl rfl) (zag zbr (zag zbu (dv 1) zab) zab)) (zaf (zak (zaB (zaa (dv 3) (zaa (zaH (zcD rfl) rfl zaX Boot.«min» (zaa zab (zaa (zag za5 (dv 3) (zag zbu (zag zaN (dv 1) zab) (zag zeP zab zab))) zac))) zac)))))) zau) (zae (zal (i:=3) zc5.nd rfl (Or.inl rfl) (zag zbr (zag zbf (dv 1) zab) zab)) (zae (zal (i:=4) zc5.nd rfl (Or.inl rfl) (zag zbf (zag zbu (zag zaN (dv 1) zab) zab) zab)) (zae (zas (zan (zaI hr) (dv 2) zab (zam _)) (zaf (zal (i:=4) zc5.nd rfl (Or.inl rfl) (zag zbf (dv 4) zab))) zau) (zae (zas (zan (zaI hr) (dv 2) zab (zam _)) (zaf (zak (zaB (zaa (zag zaN (dv 3) zab) (zaa (zag za5 (zag zaN (dv 3) zab) (zag zaN (dv 4) zab)) zac))))) zau) (zaf (zak (zaB (zaa (dv 3) (zaa (zag za5 (dv 3) (dv 4)) zac))))))))))))),λds S Q ex h=>by
  unfold zen at h
  split at h
  ·rename_i c
   have r0:=zbZ (a:=c) (b:=10^Int.toNat 40) (by decide)
   have e16:(10:Int)^Int.toNat 16=10000000000000000:=rfl
   have s0:Sz 140 (c%10^Int.toNat 40):=Sz.of (10^40) (by have e:(10:Int)^Int.toNat 40=10000000000000000000000000000000000000000:=rfl; omega)
   have mo:=zaD (m:=140) (n:=17) (s0.div (j:=5) (by decide)) (j:=48271) (by unfold Sz; decide)
   have r1:=zbZ (a:=c%10^Int.toNat 40/5*48271%2147483647) (b:=120) (by decide)
   refine⟨show (0:Int)<10^Int.toNat 40 by decide,?_⟩
   refine ifD (λe=>?_) (λe=>?_)
   ·have r2:=zbZ (a:=c%10^Int.toNat 40/5*48271) (b:=10^Int.toNat 16) (by decide)
    refine⟨show (0:Int)<1999999999999999 by decide,mo,show (0:Int)<10^Int.toNat 16 by decide,?_⟩
    refine h _ _ ?_ (by omega) ?_
    ·dsimp only
     split <;> omega
    ·dsimp only
     split <;> omega
   ·refine⟨mo,show (0:Int)<2147483647 by decide,?_⟩
    refine ifD (λe=>?_) (λe=>?_)
    ·refine ifD (λe2=>absurd (e.symm.trans e2) (by decide)) (λe2=>?_)
     exact h _ _ (by omega) (by omega) (by omega)
    ·refine ifD (λe2=>?_) (λe2=>?_)
     ·have k1:=zaD (m:=20) (n:=20) (i:=c%10^Int.toNat 40/5%201-100) (j:=37) (Sz.of 100000 (by omega)) (by unfold Sz; decide)
      have k2:=zaD (m:=20) (n:=20) (i:=c%10^Int.toNat 40/5*48271%2147483647%120) (j:=41) (Sz.of 100000 (by omega)) (by unfold Sz; decide)
      exact⟨k1,k1,k2,h _ _ (by omega) (by omega) (by omega)⟩
     ·exact h _ _ (by omega) (by omega) (by omega)
  ·exact h.elim⟩)
def zq0  (zji:Df K mg "_law_power" zgD zdb)(zbh:mg "range"=none):Fk P w K mg base 1 "_law_power" zdb zcT:=
 zji.mk' (zaA (k:=0) zji.F zj6 (zsT) λcdv A outer s H E hr=>⟨_,(zae (zal (i:=2) zj6.nd rfl (Or.inl rfl) zab) (zae (zhL (i:=3) PassesOwn.never rfl zj6.nd rfl (Or.inl rfl) rfl zbh (zaa (dv 1) zac) (zaf (zal (i:=2) zj6.nd rfl (Or.inl rfl) (zag zaN (dv 2) (dv 0))))) (zaf (zak (dv 2))))),λds S Q ex h=>by
  unfold zcT at h
  split at h
  ·rename_i x n
   obtain⟨⟨h0,h6,sx⟩,h⟩:=h
   refine⟨⟨by omega,by omega⟩,λk dl' S'=>S'=S∧k≤n.toNat∧∃(z:Int) (o:Option D),z=x^k∧dl'=[some (.int x),some (.int n),some (.int z),o],⟨rfl,VaU _,1,none,(VaE x).symm,rfl⟩,?_⟩
   rintro k dl' S' ⟨rfl,hk,z,o,rfl,rfl⟩
   refine zfc (λc=>?_) (λc=>?_)
   ·exact⟨zaD (m:=12001) (n:=2000) ((sx.pow k).mono (by omega)) sx,rfl,by omega,_,_,(Vac x k).symm,rfl⟩
   ·have e:k=n.toNat:=by omega
    subst e
    exact h
  ·exact h.elim⟩)
def zpb  (ziC:Df K mg "_law_forth" ziH zfd)(zbx:Fk P w K mg base 1 "_law_power" zdb zcT)(zaG:mg "max"=none)(zaX:mg "min"=none):Fk P w K mg base 2 "_law_forth" zfd ze0:=
 ziC.mk' (zkP (zaA (k:=1) ziC.F zc2 (zlA (zpz)) λcdv A outer s H E hr=>⟨_,(zae (zas (zan (zaI hr) (zad (dv 0) zab (λ_ _=>rfl)) za9 (zam _)) (zaf (zak (zaB (zaa (zag zby (zag zaN (zad (dv 0) zab (λ_ _=>rfl)) (dv 3)) (zad (dv 0) zab (λ_ _=>rfl))) (zaa (zaT zaS (zag zby (zag zaN (zaT zaS (zad (dv 0) zab (λ_ _=>rfl))) (dv 3)) (zad (dv 0) zab (λ_ _=>rfl)))) zac))))) zau) (zae (zas (zan (zaI hr) (zad (dv 0) zab (λ_ _=>rfl)) za9 (zam _)) (zaf (zak (za1 (dv 2) (zad (dv 0) zab (λ_ _=>rfl)) (λ_ _=>rfl)))) zau) (zae (zal (i:=4) zc2.nd rfl (Or.inl rfl) (za1 (dv 1) (zad (dv 0) zab (λ_ _=>rfl)) (λ_ _=>rfl))) (zae (zas (zan (zaI hr) (zad (dv 0) zab (λ_ _=>rfl)) za9 (zam _)) (zae (zal (i:=5) zc2.nd rfl (Or.inl rfl) (zaq zbx hr (zaa (dv 3) (zaa (zag zbr (zad (dv 0) zab (λ_ _=>rfl)) zab) zac)))) (zae (zal (i:=6) zc2.nd rfl (Or.inl rfl) (zbe (zaa (zaq zbx hr (zaa (zad (dv 4) zab (λ_ _=>rfl)) (zaa (zad (dv 0) zab (λ_ _=>rfl)) zac))) (zaa (zaq zbx hr (zaa (zad (dv 4) zab (λ_ _=>rfl)) (zaa (zad (dv 0) zab (λ_ _=>rfl)) zac))) zac)))) (zae (zal (i:=7) zc2.nd rfl (Or.inl rfl) (zaH (zbj (zcD rfl)) rfl zaX Boot.«min» (zaa (dv 6) zac))) (zae (zas (PDW.pt (zf6 (zan (zaI hr) (zag zbf (zad (dv 0) zab (λ_ _=>rfl)) zab) zab (zam _)) (zfV (zkK zcq zcq (zad (dv 4) zab (λ_ _=>rfl)) zab (zad (dv 4) zab (λ_ _=>rfl)))))) (zaf (zal (i:=7) zc2.nd rfl (Or.inl rfl) zab)) zau) (zaf (zak (zaB (zaa (zag zby (dv 7) (dv 5)) (zaa (zaT zaS (zag zby (zaT zaS (zaH (zbj (zbw rfl)) rfl zaG Boot.«max» (zaa (dv 6) zac))) (dv 5))) zac))))))))) zau) (zae (zal (i:=8) zc2.nd rfl (Or.inl rfl) (za1 (dv 1) (zad (dv 0) zab (λ_ _=>rfl)) (λ_ _=>rfl))) (zae (zas (zan (zaI hr) (zad (dv 0) zab (λ_ _=>rfl)) za9 (zam _)) (zaf (zak (zaB (zaa (zag za5 (zad (dv 4) zab (λ_ _=>rfl)) (zad (dv 8) zab (λ_ _=>rfl))) (zaa (zag za5 (zad (dv 4) zab (λ_ _=>rfl)) (zad (dv 8) zab (λ_ _=>rfl))) zac))))) zau) (zae (zas (zan (zaI hr) (zad (dv 0) zab (λ_ _=>rfl)) za9 (zam _)) (zaf (zak (zaB (zaa (zag zbr (zad (dv 4) zab (λ_ _=>rfl)) (zad (dv 8) zab (λ_ _=>rfl))) (zaa (zag zbr (zad (dv 4) zab (λ_ _=>rfl)) (zad (dv 8) zab (λ_ _=>rfl))) zac))))) zau) (zae (zal (i:=6) zc2.nd rfl (Or.inl rfl) (zbe (zaa (zag zaN (zad (dv 4) zab (λ_ _=>rfl)) (zad (dv 8) zab (λ_ _=>rfl))) (zaa (zag zaN (zad (dv 4) zab (λ_ _=>rfl)) (zad (dv 8) zab (λ_ _=>rfl))) (zaa (zag zaN (zad (dv 4) zab (λ_ _=>rfl)) (zad (dv 8) zab (λ_ _=>rfl))) (zaa (zag zaN (zad (dv 4) zab (λ_ _=>rfl)) (zad (dv 8) zab (λ_ _=>rfl))) zac)))))) (zaf (zak (zaB (zaa (zag zby (zaH (zbj (zcD rfl)) rfl zaX Boot.«min» (zaa (dv 6) zac)) (dv 3)) (zaa (zaT zaS (zag zby (zaT zaS (zaH (zbj (zbw rfl)) rfl zaG Boot.«max» (zaa (dv 6) zac))) (dv 3))) zac))))))))))))),λds S Q ex h=>by
  obtain⟨Q0,ex0,rfl,rfl,h⟩:=h
  unfold ze0 at h
  split at h
  ·rename_i d w p g
   obtain⟨v,vs,bs,rfl,hw,hp,ok,s1,hg,h⟩:=h
   have sg:Sz 21 g:=Sz.of 1000000 (by omega)
   cases v with
   | number x y=>
    have sx:Sz 31 x:=Sz.of (10^9) ok.2.2
    have sy:Sz 31 y:=Sz.of (10^9) (by have:=ok.1; omega)
    refine⟨zaD sx sg,sy.fd (by have:=ok.1; omega),zaD sx.neg sg,sy.fd (by have:=ok.1; omega),Pre.refl,zcj,?_⟩
    have e:-x*g=-(x*g):=Vai _ _
    show Q0 (.tup [.int (x*g/y),.int (-(-x*g/y))]) S
    rw[e]
    exact h
   | unknown k=>exact zaJ (o:=.lst (bs.map frD)) hp (zaY ok) ⟨Pre.refl,zqZ _,h⟩
   | power i m=>
    have a:=s1.at ok.1
    obtain⟨ok1,m2,m6⟩:=ok
    refine zaJ (o:=.lst (vs.map frD)) hw (zaY ok1) ?_
    refine⟨⟨by omega,by omega,sg.mono (by decide)⟩,?_⟩
    refine⟨⟨by omega,m6,a.2.1.mono (by decide)⟩,⟨by omega,m6,a.2.2.mono (by decide)⟩,?_⟩
    have gp:(0:Int)<g^(m.toNat-1):=Vau (by omega)
    have egs:(m-1).toNat=m.toNat-1:=by omega
    have zs:Sz 200 (g^(m.toNat-1)):=(sg.pow _).mono (by omega)
    have zf:CFd 0 (g^(m-1).toNat):=by rw[egs]; exact zs.fd gp
    have fin:∀lo hi:Int,lo=zb1 (gt vs i).1 (gt vs i).2 m.toNat→hi=zcb (gt vs i).1 (gt vs i).2 m.toNat→Q0 (.tup [.int (lo/g^(m-1).toNat),.int (-(-hi/g^(m-1).toNat))]) S:=λlo hi e1 e2=>by
     subst e1 e2
     rw[egs]
     exact h
    refine zcK (n:=S.length) (o:=.lst [.int ((gt vs i).1^m.toNat),.int ((gt vs i).2^m.toNat)]) (xs:=[(gt vs i).1^m.toNat,(gt vs i).2^m.toNat]) (zaC _ _) rfl (by simp) λmn q1 q2=>?_
    simp only[Vae,Vap,or_false] at q1
    have q3:=q2 ((gt vs i).1^m.toNat) (by simp)
    have q4:=q2 ((gt vs i).2^m.toNat) (by simp)
    refine ifD (λe=>?_) (λe=>?_)
    ·refine ifD (λc1=>?_) (λc1=>?_)
     ·refine ifD (λc2=>?_) (λc2=>?_)
      ·skip
       refine⟨zf,?_⟩
       refine zcK (n:=S.length) (o:=.lst [.int ((gt vs i).1^m.toNat),.int ((gt vs i).2^m.toNat)]) (xs:=[(gt vs i).1^m.toNat,(gt vs i).2^m.toNat]) (zaC _ _) rfl (by simp) λmx x1 x2=>?_
       simp only[Vae,Vap,or_false] at x1
       have x3:=x2 ((gt vs i).1^m.toNat) (by simp)
       have x4:=x2 ((gt vs i).2^m.toNat) (by simp)
       refine⟨zf,Pre.refl.push,zcj,fin _ _ ?_ ?_⟩
       ·unfold zb1
        rw[if_pos ⟨by omega,c1,c2⟩]
       ·unfold zcb
        omega
      ·skip
       refine⟨zf,?_⟩
       refine zcK (n:=S.length) (o:=.lst [.int ((gt vs i).1^m.toNat),.int ((gt vs i).2^m.toNat)]) (xs:=[(gt vs i).1^m.toNat,(gt vs i).2^m.toNat]) (zaC _ _) rfl (by simp) λmx x1 x2=>?_
       simp only[Vae,Vap,or_false] at x1
       have x3:=x2 ((gt vs i).1^m.toNat) (by simp)
       have x4:=x2 ((gt vs i).2^m.toNat) (by simp)
       refine⟨zf,Pre.refl.push,zcj,fin _ _ ?_ ?_⟩
       ·unfold zb1
        rw[if_neg (λc=>c2 c.2.2)]
        omega
       ·unfold zcb
        omega
     ·skip
      refine⟨zf,?_⟩
      refine zcK (n:=S.length) (o:=.lst [.int ((gt vs i).1^m.toNat),.int ((gt vs i).2^m.toNat)]) (xs:=[(gt vs i).1^m.toNat,(gt vs i).2^m.toNat]) (zaC _ _) rfl (by simp) λmx x1 x2=>?_
      simp only[Vae,Vap,or_false] at x1
      have x3:=x2 ((gt vs i).1^m.toNat) (by simp)
      have x4:=x2 ((gt vs i).2^m.toNat) (by simp)
      refine⟨zf,Pre.refl.push,zcj,fin _ _ ?_ ?_⟩
      ·unfold zb1
       rw[if_neg (λc=>c1 c.2.1)]
       omega
      ·unfold zcb
       omega
    ·skip
     refine⟨zf,?_⟩
     refine zcK (n:=S.length) (o:=.lst [.int ((gt vs i).1^m.toNat),.int ((gt vs i).2^m.toNat)]) (xs:=[(gt vs i).1^m.toNat,(gt vs i).2^m.toNat]) (zaC _ _) rfl (by simp) λmx x1 x2=>?_
     simp only[Vae,Vap,or_false] at x1
     have x3:=x2 ((gt vs i).1^m.toNat) (by simp)
     have x4:=x2 ((gt vs i).2^m.toNat) (by simp)
     refine⟨zf,Pre.refl.push,zcj,fin _ _ ?_ ?_⟩
     ·unfold zb1
      rw[if_neg (λc=>e (by have:=c.1; omega))]
      omega
     ·unfold zcb
      omega
   | times i j=>
    have a:=s1.at ok.1
    have b:=s1.at ok.2
    refine zaJ (o:=.lst (vs.map frD)) hw (zaY ok.1) ?_
    refine zaJ (o:=.lst (vs.map frD)) hw (zaY ok.2) ?_
    refine⟨zaD a.2.1 b.2.1,zaD a.2.1 b.2.2,zaD a.2.2 b.2.1,zaD a.2.2 b.2.2,?_⟩
    apply zcK
    ·exact zaC _ _
    ·rfl
    ·simp
    intro mn n1 n2
    refine⟨sg.fd (by omega),?_⟩
    apply zcK
    ·exact zaC _ _
    ·rfl
    ·simp
    intro mx x1 x2
    refine⟨sg.fd (by omega),Pre.refl.push,zcj,?_⟩
    obtain⟨rfl,rfl⟩:=(zgc.of n1 n2 x1 x2).eq
    exact h
   | plus i j=>
    refine zaJ (o:=.lst (vs.map frD)) hw (zaY ok.1) ?_
    refine zaJ (o:=.lst (vs.map frD)) hw (zaY ok.2) ?_
    exact⟨Pre.refl,zcj,h⟩
   | minus i j=>
    refine zaJ (o:=.lst (vs.map frD)) hw (zaY ok.1) ?_
    refine zaJ (o:=.lst (vs.map frD)) hw (zaY ok.2) ?_
    exact⟨Pre.refl,zcj,h⟩
  ·exact h.elim⟩))
def zrs  (zh8:Df K mg "_law_here" zh9 zfr)(zkv:Fk P w K mg base 2 "_law_forth" zfd ze0)(zdp:Fk P w K mg base 1 "_law_span" zdR zen)(zbH:mg "list"=none):Fk P w K mg base 3 "_law_here" zfr ze7:=
 zh8.mk' (zkP (zaA (k:=2) zh8.F zcQ (zlA (znF)) λcdv A outer s H E hr=>⟨_,(zae (zal (i:=5) zcQ.nd rfl (Or.inl rfl) (zag zbu (dv 4) (zag zeP zab zab))) (zae (zas (PDW.pt (zca (zan (zaI hr) (zag zbf (dv 5) zab) zab (zam _)) (zca (zan (zaI hr) (zad (dv 0) zab (λ_ _=>rfl)) za9 (zam _)) (zcM (zan (zaI hr) (zad (dv 0) zab (λ_ _=>rfl)) za9 (zam _)))))) (zaf (zak (zaq zdp hr (zaa (zag zbq (dv 5) zab) zac)))) zau) (zae (zal (i:=6) zcQ.nd rfl (Or.inl rfl) (zm8 (zbj zmh) rfl zbH Boot.«list» (zaa (dv 1) zac))) (zae (zal (i:=7) zcQ.nd rfl (Or.inl rfl) (za1 (dv 1) (zad (dv 0) zab (λ_ _=>rfl)) (λ_ _=>rfl))) (zae (zal (i:=8) zcQ.nd rfl (Or.inl rfl) (zag za5 (zad (dv 7) zab (λ_ _=>rfl)) (zag zbq (zag zaN (zag zbr (zad (dv 7) zab (λ_ _=>rfl)) (zad (dv 7) zab (λ_ _=>rfl))) (zag zbf (zag zbq (dv 5) zab) zab)) zab))) (zae (zlW (dv 6) (zad (dv 0) zab (λ_ _=>rfl)) (zaB (zaa (dv 8) (zaa (dv 8) zac)))) (zae (zas (PDW.pt (zf6 (zan (zdg hr) (zad (dv 0) zab (λ_ _=>rfl)) za9 (zam _)) (zfV (zan (zdg hr) (zad (dv 0) zab (λ_ _=>rfl)) (zad (dv 0) zab (λ_ _=>rfl)) (zam _))))) (zae (zal (i:=9) zcQ.nd rfl (Or.inl rfl) (za1 (dv 1) (zad (dv 0) zab (λ_ _=>rfl)) (λ_ _=>rfl))) (zae (zal (i:=10) zcQ.nd rfl (Or.inl rfl) (zag za5 (zad (dv 9) zab (λ_ _=>rfl)) (zag zbq (zag zaN (zag zbr (zad (dv 9) zab (λ_ _=>rfl)) (zad (dv 9) zab (λ_ _=>rfl))) (zag zbf (zag zbq (dv 5) zab) zab)) zab))) (zaf (zlW (dv 6) (zad (dv 0) zab (λ_ _=>rfl)) (zaB (zaa (dv 10) (zaa (dv 10) zac))))))) zau) (zae (zal (i:=11) zcQ.nd rfl (Or.inl rfl) (zaq zkv hr (zaa (dv 0) (zaa (dv 6) (zaa (dv 2) (zaa (dv 3) zac)))))) (zae (zal (i:=5) zcQ.nd rfl (Or.inl rfl) (zag zbu (zag zaN (dv 5) zab) zab)) (zaf (zak (zaB (zaa (zag zbr (zad (dv 11) zab (λ_ _=>rfl)) (zag zbq (zag zbf (dv 5) zab) zab)) (zaa (zag za5 (zad (dv 11) zab (λ_ _=>rfl)) (zag zbq (zag zbf (zag zbq (dv 5) zab) zab) zab)) zac)))))))))))))),λds S Q ex h=>by
  obtain⟨Q0,ex0,rfl,rfl,h⟩:=h
  unfold ze7 at h
  split at h
  ·rename_i d w p g c
   obtain⟨v,vs,bs,rfl,hw,hp,ok,g1,g2,hg,h⟩:=h
   have e40:(10:Int)^Int.toNat 40=10000000000000000000000000000000000000000:=rfl
   have r0:=zbZ (a:=c) (b:=10^Int.toNat 40) (by decide)
   have s0:Sz 140 (c%10^Int.toNat 40):=Sz.of (10^40) (by omega)
   have mo:=zaD (m:=140) (n:=17) s0 (j:=48271) (by unfold Sz; decide)
   have spn:∀lo hi:Int,lo≤hi→lo.natAbs≤10^15→hi.natAbs≤10^15→Gc S Q0 (.tup [.int lo,.int hi]) S:=λlo hi h1 h2 h3=>⟨Pre.refl,zcj,h lo hi h1 ((Sz.of (n:=51) (10^15) h2).mono (by decide)) ((Sz.of (n:=51) (10^15) h3).mono (by decide))⟩
   have fin:∀(us:List (Int×Int)) (T:Sto),us.length=vs.length→Spn 60 us→Pre S T→IntMulOk (c%10^Int.toNat 40) 48271∧(0:Int)<2147483647∧Gc S Q0 (.tup [.int ((v.fw us bs g).1-c%10^Int.toNat 40*48271%2147483647%12/3),.int ((v.fw us bs g).2+c%10^Int.toNat 40*48271%2147483647/12%12/3)]) T:=λus T lu su pt=>by
    have z:=v.fw_sz su (g2.mono (by decide)) hg (by decide) (by rw[lu]; exact ok)
    have l:=v.fw_le su (g2.mono (C:=60) (by decide)) hg.1 (by rw[lu]; exact ok)
    have q3:∀X:Int,0≤X%12/3∧X%12/3≤3:=λX=>by omega
    have q4:=q3 (c%10^Int.toNat 40*48271%2147483647)
    have q5:=q3 (c%10^Int.toNat 40*48271%2147483647/12)
    have le3:∀a b x y:Int,a≤b→0≤x→0≤y→a-x≤b+y:=λ_ _ _ _ _ _ _=>by omega
    refine⟨mo,by decide,pt,zcj,h _ _ (le3 _ _ _ _ l q4.1 q5.1) ?_ ?_⟩
    ·exact(z.1.sub (Sz.of (n:=5) 12 (zmO q4):Sz 5 (c%10^Int.toNat 40*48271%2147483647%12/3))).mono (by decide)
    ·exact(z.2.add (Sz.of (n:=5) 12 (zmO q5):Sz 5 (c%10^Int.toNat 40*48271%2147483647/12%12/3))).mono (by decide)
   refine⟨show (0:Int)<10^Int.toNat 40 by decide,?_⟩
   refine ifD (λe=>spn) (λe=>?_)
   cases v with
   | number x y=>exact spn
   | unknown k=>exact spn
   | power i m=>
    have ok1:=ok.1
    have b1:=g1.at ok1
    have z1:=zdr (k:=c%10^Int.toNat 40/4%9) b1.1 b1.2.1 b1.2.2 (by omega) (by omega)
    refine zfS (za8 hw rfl) ?_
    refine zaJ (o:=.lst (vs.map frD)) (zay hw) (zaY ok1) ?_
    refine⟨z1.1,?_⟩
    refine zdv (n:=S.length) (k:=i) (j:=i.toNat) (xs:=vs.map frD) (v:=frD ((gt vs i).1+((gt vs i).2-(gt vs i).1)*(c%10^Int.toNat 40/4%9)/8,(gt vs i).1+((gt vs i).2-(gt vs i).1)*(c%10^Int.toNat 40/4%9)/8)) (λK hK=>by exact hK) (λK hK=>by exact hK) (λK hK=>by exact hK) (zaC _ _) (by rw[Vab]; exact zdG ok1) ?_
    rw[zcR,zdB]
    refine⟨_,_,bs,rfl,zaC _ _,zay hp,by rw[Vag]; exact ok,((g1.mono (by decide)).set z1.2).mono (by decide),hg,?_⟩
    exact fin _ _ (Vag ..) ((g1.mono (by decide)).set z1.2) Pre.refl.push
   | plus i j=>
    have ok1:=ok.1
    have ok2:=ok.2
    have b1:=g1.at ok1
    have z1:=zdr (k:=c%10^Int.toNat 40/4%9) b1.1 b1.2.1 b1.2.2 (by omega) (by omega)
    refine zfS (za8 hw rfl) ?_
    refine zaJ (o:=.lst (vs.map frD)) (zay hw) (zaY ok1) ?_
    refine⟨z1.1,?_⟩
    refine zdv (n:=S.length) (k:=i) (j:=i.toNat) (xs:=vs.map frD) (v:=frD ((gt vs i).1+((gt vs i).2-(gt vs i).1)*(c%10^Int.toNat 40/4%9)/8,(gt vs i).1+((gt vs i).2-(gt vs i).1)*(c%10^Int.toNat 40/4%9)/8)) (λK hK=>by exact hK) (λK hK=>by exact hK) (λK hK=>by exact hK) (zaC _ _) (by rw[Vab]; exact zdG ok1) ?_
    rw[zcR,zdB]
    have b2:=g1.at ok2
    have z2:=zdr (k:=c%10^Int.toNat 40/36%9) b2.1 b2.2.1 b2.2.2 (by omega) (by omega)
    refine ifN (λe3=>?_) (λe3=>?_)
    ·refine zaJ (o:=.lst (vs.map frD)) (zay hw) (zaY ok2) ?_
     refine⟨z2.1,?_⟩
     refine zdv (n:=S.length) (k:=j) (j:=j.toNat) (xs:=_) (v:=frD ((gt vs j).1+((gt vs j).2-(gt vs j).1)*(c%10^Int.toNat 40/36%9)/8,(gt vs j).1+((gt vs j).2-(gt vs j).1)*(c%10^Int.toNat 40/36%9)/8)) (λK hK=>by exact hK) (λK hK=>by exact hK) (λK hK=>by exact hK) (zaC _ _) (by rw[Vab,Vag]; exact zdG ok2) ?_
     rw[zcR,zdB]
     refine⟨_,_,bs,rfl,zaC _ _,zay hp,by rw[Vag,Vag]; exact ok,(((g1.mono (by decide)).set z1.2).set z2.2).mono (by decide),hg,?_⟩
     exact fin _ _ (by rw[Vag,Vag]) (((g1.mono (by decide)).set z1.2).set z2.2) Pre.refl.push
    ·skip
     refine⟨_,_,bs,rfl,zaC _ _,zay hp,by rw[Vag]; exact ok,((g1.mono (by decide)).set z1.2).mono (by decide),hg,?_⟩
     exact fin _ _ (Vag ..) ((g1.mono (by decide)).set z1.2) Pre.refl.push
   | minus i j=>
    have ok1:=ok.1
    have ok2:=ok.2
    have b1:=g1.at ok1
    have z1:=zdr (k:=c%10^Int.toNat 40/4%9) b1.1 b1.2.1 b1.2.2 (by omega) (by omega)
    refine zfS (za8 hw rfl) ?_
    refine zaJ (o:=.lst (vs.map frD)) (zay hw) (zaY ok1) ?_
    refine⟨z1.1,?_⟩
    refine zdv (n:=S.length) (k:=i) (j:=i.toNat) (xs:=vs.map frD) (v:=frD ((gt vs i).1+((gt vs i).2-(gt vs i).1)*(c%10^Int.toNat 40/4%9)/8,(gt vs i).1+((gt vs i).2-(gt vs i).1)*(c%10^Int.toNat 40/4%9)/8)) (λK hK=>by exact hK) (λK hK=>by exact hK) (λK hK=>by exact hK) (zaC _ _) (by rw[Vab]; exact zdG ok1) ?_
    rw[zcR,zdB]
    have b2:=g1.at ok2
    have z2:=zdr (k:=c%10^Int.toNat 40/36%9) b2.1 b2.2.1 b2.2.2 (by omega) (by omega)
    refine ifN (λe3=>?_) (λe3=>?_)
    ·refine zaJ (o:=.lst (vs.map frD)) (zay hw) (zaY ok2) ?_
     refine⟨z2.1,?_⟩
     refine zdv (n:=S.length) (k:=j) (j:=j.toNat) (xs:=_) (v:=frD ((gt vs j).1+((gt vs j).2-(gt vs j).1)*(c%10^Int.toNat 40/36%9)/8,(gt vs j).1+((gt vs j).2-(gt vs j).1)*(c%10^Int.toNat 40/36%9)/8)) (λK hK=>by exact hK) (λK hK=>by exact hK) (λK hK=>by exact hK) (zaC _ _) (by rw[Vab,Vag]; exact zdG ok2) ?_
     rw[zcR,zdB]
     refine⟨_,_,bs,rfl,zaC _ _,zay hp,by rw[Vag,Vag]; exact ok,(((g1.mono (by decide)).set z1.2).set z2.2).mono (by decide),hg,?_⟩
     exact fin _ _ (by rw[Vag,Vag]) (((g1.mono (by decide)).set z1.2).set z2.2) Pre.refl.push
    ·skip
     refine⟨_,_,bs,rfl,zaC _ _,zay hp,by rw[Vag]; exact ok,((g1.mono (by decide)).set z1.2).mono (by decide),hg,?_⟩
     exact fin _ _ (Vag ..) ((g1.mono (by decide)).set z1.2) Pre.refl.push
   | times i j=>
    have ok1:=ok.1
    have ok2:=ok.2
    have b1:=g1.at ok1
    have z1:=zdr (k:=c%10^Int.toNat 40/4%9) b1.1 b1.2.1 b1.2.2 (by omega) (by omega)
    refine zfS (za8 hw rfl) ?_
    refine zaJ (o:=.lst (vs.map frD)) (zay hw) (zaY ok1) ?_
    refine⟨z1.1,?_⟩
    refine zdv (n:=S.length) (k:=i) (j:=i.toNat) (xs:=vs.map frD) (v:=frD ((gt vs i).1+((gt vs i).2-(gt vs i).1)*(c%10^Int.toNat 40/4%9)/8,(gt vs i).1+((gt vs i).2-(gt vs i).1)*(c%10^Int.toNat 40/4%9)/8)) (λK hK=>by exact hK) (λK hK=>by exact hK) (λK hK=>by exact hK) (zaC _ _) (by rw[Vab]; exact zdG ok1) ?_
    rw[zcR,zdB]
    have b2:=g1.at ok2
    have z2:=zdr (k:=c%10^Int.toNat 40/36%9) b2.1 b2.2.1 b2.2.2 (by omega) (by omega)
    refine ifN (λe3=>?_) (λe3=>?_)
    ·refine zaJ (o:=.lst (vs.map frD)) (zay hw) (zaY ok2) ?_
     refine⟨z2.1,?_⟩
     refine zdv (n:=S.length) (k:=j) (j:=j.toNat) (xs:=_) (v:=frD ((gt vs j).1+((gt vs j).2-(gt vs j).1)*(c%10^Int.toNat 40/36%9)/8,(gt vs j).1+((gt vs j).2-(gt vs j).1)*(c%10^Int.toNat 40/36%9)/8)) (λK hK=>by exact hK) (λK hK=>by exact hK) (λK hK=>by exact hK) (zaC _ _) (by rw[Vab,Vag]; exact zdG ok2) ?_
     rw[zcR,zdB]
     refine⟨_,_,bs,rfl,zaC _ _,zay hp,by rw[Vag,Vag]; exact ok,(((g1.mono (by decide)).set z1.2).set z2.2).mono (by decide),hg,?_⟩
     exact fin _ _ (by rw[Vag,Vag]) (((g1.mono (by decide)).set z1.2).set z2.2) Pre.refl.push
    ·skip
     refine⟨_,_,bs,rfl,zaC _ _,zay hp,by rw[Vag]; exact ok,((g1.mono (by decide)).set z1.2).mono (by decide),hg,?_⟩
     exact fin _ _ (Vag ..) ((g1.mono (by decide)).set z1.2) Pre.refl.push
  ·exact h.elim⟩))
def zrw  (ziL:Df K mg "_law_hulled" zdK zeD)(zaG:mg "max"=none)(zaX:mg "min"=none)(za2:mg "len"=none):Fk P w K mg base 1 "_law_hulled" zeD zd7:=
 ziL.mk' (zaA (k:=0) ziL.F znm (zr2) λcdv A outer s H E hr=>⟨_,(zae (zn3 (x:="_law_span_here") (N:=[]) (caps:=[]) (ar:=zat zdK) rfl rfl csc rfl (by decide) (i:=1) znm.nd rfl rfl (dv 0) (λ_ _ _ _ _ _=>zsx (zan zh2 (dv 0) zaF (zam _))) (λ_ _ _ _ _ _=>(dv 0))) (zae (zas (zan (zaI hr) (zaH (zbj zcr) rfl za2 Boot.«len» (zaa (dv 1) zac)) zab (zam _)) (zaf (zak zaF)) zau) (zaf (zak (zaB (zaa (zaH (zbj (zcD rfl)) rfl zaX Boot.«min» (zaa (zkm (x:="_law_span_here") (N:=[]) (caps:=[]) (ar:=zat zdK) rfl rfl csc rfl (by decide) (dv 1) (λ_ _ _ _ _ _=>zfo) (λ_ _ _ _ _ _=>(zad (dv 0) zab (λ_ _=>rfl)))) zac)) (zaa (zaH (zbj (zbw rfl)) rfl zaG Boot.«max» (zaa (zkm (x:="_law_span_here") (N:=[]) (caps:=[]) (ar:=zat zdK) rfl rfl csc rfl (by decide) (dv 1) (λ_ _ _ _ _ _=>zfo) (λ_ _ _ _ _ _=>(zad (dv 0) zab (λ_ _=>rfl)))) zac)) zac))))))),λds S Q ex h=>by
  unfold zd7 at h
  split at h
  ·rename_i a
   obtain⟨os,ha,l10,h1,h2⟩:=h
   have io:zav (Ob.lst (os.map opD))=os.map opD:=rfl
   refine zpo (n:=a) (o:=.lst (os.map opD)) (S1:=S) zeB (λx=>x) (λK hK=>by exact hK) ha (by rw[io,Vab]; omega) (λx hx S2 K pr hK=>?_) (λx hx b S2 K pr hK=>by exact hK) ?_
   ·obtain⟨o,_,rfl⟩:=List.mem_map.mp hx
    cases o <;> exact hK
   rw[io,zlc,List.map_id']
   have sp:=zk8 os
   have lf:=List.length_filterMap_le id os
   generalize os.filterMap id=ps at sp lf
   refine zdD (zaC _ _) ?_
   rw[Vab]
   refine ifD (λe=>?_) (λe=>?_)
   ·have e0:ps=[]:=List.eq_nil_of_length_eq_zero (by omega)
    exact h1 (sp.1 e0) _ Pre.refl.push
   ·have ne:ps≠[]:=λz=>e (by rw[z]; rfl)
    obtain⟨L,U,eq,l1,l2,u1,u2⟩:=sp.2 ne
    have i1:zav (Ob.lst (ps.map frD))=ps.map frD:=rfl
    refine zlS (n:=S.length) (o:=.lst (ps.map frD)) (S1:=S++[.lst (ps.map frD)]) (λd=>match d with | .tup [x,_]=>x | d=>d) (λK hK=>by exact hK) (zaC _ _) (by rw[i1,Vab]; omega) (λx hx S2 K pr hK=>?_) ?_
    ·obtain⟨p,_,rfl⟩:=List.mem_map.mp hx
     exact hK
    have m1:(zav (Ob.lst (ps.map frD))).map (λd=>match d with | .tup [x,_]=>x | d=>d)=(ps.map (·.1)).map D.int:=by
     rw[i1,List.map_map,List.map_map]
     rfl
    rw[m1]
    refine zcK (xs:=ps.map λp:Int×Int=>p.1) (zaC _ _) (zkO _) (by simpa using ne) λmn n1 n2=>?_
    have emn:mn=L:=by
     have a1:=l2 mn n1
     have a2:mn≤L:=n2 L l1
     omega
    subst emn
    refine zlS (n:=S.length) (o:=.lst (ps.map frD)) (S1:=S++[.lst (ps.map frD)]++[.lst ((ps.map (·.1)).map D.int)]) (λd=>match d with | .tup [_,x]=>x | d=>d) (λK hK=>by exact hK) (zay (zaC _ _)) (by rw[i1,Vab]; omega) (λx hx S2 K pr hK=>?_) ?_
    ·obtain⟨p,_,rfl⟩:=List.mem_map.mp hx
     exact hK
    have m2:(zav (Ob.lst (ps.map frD))).map (λd=>match d with | .tup [_,x]=>x | d=>d)=(ps.map (·.2)).map D.int:=by
     rw[i1,List.map_map,List.map_map]
     rfl
    rw[m2]
    refine zcK (xs:=ps.map λp:Int×Int=>p.2) (zaC _ _) (zkO _) (by simpa using ne) λmx x1 x2=>?_
    have emx:mx=U:=by
     have a1:=u2 mx x1
     have a2:mx≥U:=x2 U u1
     omega
    subst emx
    exact h2 _ eq _ (λn o q=>zay (zay (zay q)))
  ·exact h.elim⟩)
def znS  (zim:Df K mg "_law_kept" zhy zfw)(zaX:mg "min"=none)(zaG:mg "max"=none):Fk P w K mg base 1 "_law_kept" zfw zfR:=
 zim.mk' (zaA (k:=0) zim.F ze8 (zn2) λcdv A outer s H E hr=>⟨_,(zae (zal (i:=2) ze8.nd rfl (Or.inl rfl) (zad (dv 0) zab (λ_ _=>rfl))) (zae (zal (i:=3) ze8.nd rfl (Or.inl rfl) (zad (dv 0) zab (λ_ _=>rfl))) (zae (zas (zan zh2 (zad (dv 1) zab (λ_ _=>rfl)) zaF (zam _)) (zae (zas (zan zbS (zad (zad (dv 1) zab (λ_ _=>rfl)) zab (λ_ _=>rfl)) (zag zaN (zad (dv 0) zab (λ_ _=>rfl)) (zad (zad (dv 1) zab (λ_ _=>rfl)) zab (λ_ _=>rfl))) (zam _)) (zaf (zak zaF)) zau) (zaf (zal (i:=2) ze8.nd rfl (Or.inl rfl) (zaH (zbw rfl) rfl zaG Boot.«max» (zaa (dv 2) (zaa (zag zby (zad (zad (dv 1) zab (λ_ _=>rfl)) zab (λ_ _=>rfl)) (zad (zad (dv 1) zab (λ_ _=>rfl)) zab (λ_ _=>rfl))) zac)))))) zau) (zae (zas (zan zh2 (zad (dv 1) zab (λ_ _=>rfl)) zaF (zam _)) (zae (zas (zan zbp (zad (zad (dv 1) zab (λ_ _=>rfl)) zab (λ_ _=>rfl)) (zag zaN (zad (dv 0) zab (λ_ _=>rfl)) (zad (zad (dv 1) zab (λ_ _=>rfl)) zab (λ_ _=>rfl))) (zam _)) (zaf (zak zaF)) zau) (zaf (zal (i:=3) ze8.nd rfl (Or.inl rfl) (zaH (zcD rfl) rfl zaX Boot.«min» (zaa (dv 3) (zaa (zaT zaS (zag zby (zaT zaS (zad (zad (dv 1) zab (λ_ _=>rfl)) zab (λ_ _=>rfl))) (zad (zad (dv 1) zab (λ_ _=>rfl)) zab (λ_ _=>rfl)))) zac)))))) zau) (zaf (zak (zaB (zaa (dv 2) (zaa (dv 3) zac))))))))),λds S Q ex h=>by
  unfold zfR at h
  split at h
  ·rename_i x0 x1 d
   obtain⟨l,hh,rfl,⟨s0,s1⟩,hl,hb,h1,h2⟩:=h
   unfold kpS at h1 h2
   cases l with
   | none=>cases hh with
    | none=>exact h2 (x0,x1) rfl
    | some b=>
     obtain⟨b0,sb⟩:=hb b rfl
     dsimp only at h1 h2
     refine⟨zaD s0 sb,?_⟩
     refine ifD (λc=>h1 (if_pos c)) (λc=>?_)
     refine⟨sb.fd b0,?_⟩
     exact h2 _ (if_neg c)
   | some a=>
    obtain⟨a0,sa⟩:=hl a rfl
    dsimp only at h1 h2
    refine⟨zaD s1 sa,?_⟩
    refine ifD (λc=>?_) (λc=>?_)
    ·rw[if_pos c] at h1
     exact h1 rfl
    rw[if_neg c] at h1 h2
    refine⟨sa.fd a0,?_⟩
    cases hh with
    | none=>exact h2 _ rfl
    | some b=>
     obtain⟨b0,sb⟩:=hb b rfl
     dsimp only at h1 h2
     refine⟨zaD s0 sb,?_⟩
     refine ifD (λd=>h1 (if_pos d)) (λd=>?_)
     refine⟨sb.fd b0,?_⟩
     exact h2 _ (if_neg d)
  ·exact h.elim⟩)
def zoY  (zj4:Df K mg "_law_pieces" zkh zeX)(zbt:mg "abs"=none):Fk P w K mg base 1 "_law_pieces" zeX zgv:=
 zj4.mk' (zaA (k:=0) zj4.F zbL (zrA) λcdv A outer s H E hr=>⟨_,(zae (zas (PDW.pt (zca (zan zbS (zad (dv 2) zab (λ_ _=>rfl)) zab (zam _)) (zcM (zan zbp (zad (dv 2) zab (λ_ _=>rfl)) zab (zam _))))) (zae (zal (i:=3) zbL.nd rfl (Or.inl rfl) (zbe zac)) (zae (zho (i:=4) PassesOwn.never rfl zbL.nd rfl (Or.inl rfl) (zbe (zaa (dv 0) (zaa (dv 1) zac))) (zaf (zho (i:=5) PassesOwn.never rfl zbL.nd rfl (Or.inl rfl) (zbe (zaa (zad (dv 2) zab (λ_ _=>rfl)) (zaa (zad (dv 2) zab (λ_ _=>rfl)) zac))) (zaf (zlG (zkr (dv 3) (zcY (zan zbS (dv 5) zab (zam _)) (zaB (zaa (dv 4) (zaa (dv 5) zac))) (zaB (zaa (zaT zaS (dv 4)) (zaa (zaT zaS (dv 5)) zac)))))))))) (zae (zal (i:=6) zbL.nd rfl (Or.inl rfl) (za1 (dv 3) zab (λ_ _=>rfl))) (zae (zal (i:=7) zbL.nd rfl (Or.inl rfl) (za1 (dv 3) zab (λ_ _=>rfl))) (zae (zho (i:=8) PassesOwn.never rfl zbL.nd rfl (Or.inl rfl) (dv 3) (zae (zas (zan zbp (zag zaN (zad (dv 8) zab (λ_ _=>rfl)) (zad (dv 6) zab (λ_ _=>rfl))) (zag zaN (zad (dv 6) zab (λ_ _=>rfl)) (zad (dv 8) zab (λ_ _=>rfl))) (zam _)) (zaf (zal (i:=6) zbL.nd rfl (Or.inl rfl) (dv 8))) zau) (zaf (zas (zan zbS (zag zaN (zad (dv 8) zab (λ_ _=>rfl)) (zad (dv 7) zab (λ_ _=>rfl))) (zag zaN (zad (dv 7) zab (λ_ _=>rfl)) (zad (dv 8) zab (λ_ _=>rfl))) (zam _)) (zaf (zal (i:=7) zbL.nd rfl (Or.inl rfl) (dv 8))) zau)))) (zaf (zak (zbe (zaa (zaB (zaa (dv 6) (zaa (dv 7) zac))) zac))))))))) zau) (zae (zal (i:=9) zbL.nd rfl (Or.inl rfl) (zbe zac)) (zae (zal (i:=10) zbL.nd rfl (Or.inl rfl) (dv 0)) (zae (zas (zan zbp (dv 1) zab (zam _)) (zaf (zal (i:=10) zbL.nd rfl (Or.inl rfl) (dv 1))) zau) (zae (zho (i:=5) PassesOwn.never rfl zbL.nd rfl (Or.inl rfl) (zbe (zaa (zad (dv 2) zab (λ_ _=>rfl)) (zaa (zad (dv 2) zab (λ_ _=>rfl)) zac))) (zaf (zas (PDW.pt (zf6 (zan (zdg hr) (dv 5) zab (zam _)) (zfV (zan (zaI hr) (zfE zbS (dv 10) zab (zam _)) (zfE zbS (dv 5) zab (zam _)) (zam _))))) (zaf (zlG (zkr (dv 9) (zaB (zaa (zaB (zaa (zaH zeu rfl zbt Boot.«abs» (zaa (dv 10) zac)) (zaa (zaH zeu rfl zbt Boot.«abs» (zaa (dv 5) zac)) zac))) (zaa zaF zac)))))) (zaf (zas (zan (zdg hr) (dv 5) zab (zam _)) (zaf (zlG (zkr (dv 9) (zaB (zaa zaF (zaa (zaB (zaa (zaT zaS (zaH zeu rfl zbt Boot.«abs» (zaa (dv 10) zac))) (zaa (zaH zeu rfl zbt Boot.«abs» (zaa (dv 5) zac)) zac))) zac)))))) zau))))) (zaf (zak (dv 9)))))))),λds S Q ex h=>by
  unfold zgv at h
  split at h
  ·rename_i lo hi y0 y1
   obtain⟨⟨hy,s1,s2,s3,s4⟩,h⟩:=h
   have hes:∀e∈zaU lo hi (y0,y1),Sz 1100 e.1∧Sz 1100 e.2:=λe he=>by
    unfold zaU nrm at he
    simp only[Vae,Vap,or_false] at he
    rcases he with rfl | rfl | rfl | rfl <;> split <;> first | exact⟨s1,s3⟩ | exact⟨s1.neg,s3.neg⟩ | exact⟨s1,s4⟩ | exact⟨s1.neg,s4.neg⟩ | exact⟨s2,s3⟩ | exact⟨s2.neg,s3.neg⟩ | exact⟨s2,s4⟩ | exact⟨s2.neg,s4.neg⟩
   refine ifD (λc=>?_) (λc=>?_)
   ·have out:y0 > 0∨y1<0:=.inl c
    refine zch ?_
    have pos:=zkY (lo:=lo) (hi:=hi) (y:=(y0,y1)) hy out
    refine zkz (λdl2 S2=>Pre S S2∧S2[S.length]?=some (.lst ((zaU lo hi (y0,y1)).map frD))∧∃u4 u5:Option D,dl2=[some (.int lo),some (.int hi),some (.tup [.int y0,.int y1]),some (.ref S.length),u4,u5,none,none,none,none,none]) (λnx hn=>?_) ?_
    ·refine zdx (n:=(S++[Ob.lst []]).length) (o:=.lst ([lo,hi].map D.int)) (λi dl' S'=>i≤2∧Pre S S'∧S'[S.length]?=some (.lst (((zaU lo hi (y0,y1)).take (2*i)).map frD))∧S'[(S++[Ob.lst []]).length]?=some (.lst ([lo,hi].map D.int))∧∃u4 u5:Option D,dl'=[some (.int lo),some (.int hi),some (.tup [.int y0,.int y1]),some (.ref S.length),u4,u5,none,none,none,none,none]) ⟨by decide,λn o e=>zay (zay e),zay (zaC _ _),zaC _ _,_,_,rfl⟩ (λi dl' S' z=>z.2.2.2.1) ?_ ?_
     ·rintro i x dl' S' nx ct ex' ⟨hi2,pr',hE,hO,u4,u5,rfl⟩ hn
      have ex2:([lo,hi].map D.int)[i]?=some x:=ex'
      rw[Vah] at ex2
      obtain⟨t,ht,rfl⟩:=Vav.mp ex2
      have hi3:=(Vad.mp ht).1
      have l2:[lo,hi].length=2:=rfl
      have lE:=zd8 hE
      have lO:=zd8 hO
      refine zdx (n:=S'.length) (o:=.lst ([y0,y1].map D.int)) (λj dl' S2=>j≤2∧Pre S S2∧S2[S.length]?=some (.lst (((zaU lo hi (y0,y1)).take (2*i+j)).map frD))∧S2[(S++[Ob.lst []]).length]?=some (.lst ([lo,hi].map D.int))∧S2[S'.length]?=some (.lst ([y0,y1].map D.int))∧∃u5:Option D,dl'=[some (.int lo),some (.int hi),some (.tup [.int y0,.int y1]),some (.ref S.length),some (.int t),u5,none,none,none,none,none]) ⟨by decide,zdu pr' _,zay hE,zay hO,zaC _ _,_,rfl⟩ (λj dl' S2 z=>z.2.2.2.2.1) ?_ ?_
      ·rintro j x dl' S2 nx ct ex' ⟨hj2,pr2,hE2,hO2,hI2,u5,rfl⟩ hn
       have ex2:([y0,y1].map D.int)[j]?=some x:=ex'
       rw[Vah] at ex2
       obtain⟨b,hb,rfl⟩:=Vav.mp ex2
       have hj3:=(Vad.mp hb).1
       have l3:[y0,y1].length=2:=rfl
       have ea:=zmR ht hb
       refine zgA (n:=S.length) (S1:=S2) (xs:=((zaU lo hi (y0,y1)).take (2*i+j)).map frD) (y:=frD (nrm t b)) (λK hK=>by exact hK) hE2 (λK hK=>?_) (by rw[Vab,VaQ]; omega) ?_
       ·exact zl4 rfl hK
       ·refine hn _ _ ⟨by omega,zk7 pr2 (Vaa _),?_,zdi hO2 (by rw[VaD]; have e1:([Ob.lst []]:Sto).length=1:=rfl; omega),zdi hI2 (by omega),_,rfl⟩
        rw[show 2*i+(j+1)=2*i+j+1 by omega,zcV ea,List.map_append]
        exact zlq hE2
      ·rintro dl' S2 ⟨hj2,pr2,hE2,hO2,hI2,u5,rfl⟩
       exact hn _ _ ⟨by omega,pr2,hE2,hO2,_,_,rfl⟩
     ·rintro dl' S' ⟨hi2,pr',hE,hO,u4,u5,rfl⟩
      exact hn _ _ ⟨pr',hE,_,_,rfl⟩
    rintro dl2 T ⟨prT,hE,u4,u5,rfl⟩
    generalize hes4:zaU lo hi (y0,y1)=es at *
    have e0:es[0]?=some (nrm lo y0):=by rw[← hes4]; rfl
    have a0:nrm lo y0∈es:=Vat e0
    have at0:atI (es.map frD) 0=some (frD (nrm lo y0)):=zeh (j:=0) (by rw[Vah,e0]; rfl)
    refine zaJ (o:=.lst (es.map frD)) hE at0 ?_
    refine zaJ (o:=.lst (es.map frD)) hE at0 ?_
    refine zdx (n:=S.length) (o:=.lst (es.map frD)) (λi dl' S'=>T=S'∧∃(a b:Int×Int) (u8:Option D),a∈es∧(∀x∈es.take i,a.1*x.2≤x.1*a.2)∧b∈es∧(∀x∈es.take i,x.1*b.2≤b.1*x.2)∧dl'=[some (.int lo),some (.int hi),some (.tup [.int y0,.int y1]),some (.ref S.length),u4,u5,some (frD a),some (frD b),u8,none,none]) ⟨rfl,_,_,_,a0,λx hx=>(nomatch hx),a0,λx hx=>(nomatch hx),rfl⟩ (λi dl' S' z=>z.1 ▸ hE) ?_ ?_
    ·rintro i x dl' S' nx ct ex' ⟨rfl,a,b,u8,ha,la,hb,mb,rfl⟩ hn
     have ex2:(es.map frD)[i]?=some x:=ex'
     rw[Vah] at ex2
     obtain⟨e,he,rfl⟩:=Vav.mp ex2
     have em:=Vat he
     have se:=hes e em
     have sa:=hes a ha
     have sb:=hes b hb
     have L:=zmT pos he ha la
     have M:=zmQ pos he hb mb
     refine⟨zaD se.1 sa.2,zaD sa.1 se.2,?_⟩
     refine ifD (λc1=>?_) (λc1=>?_)
     ·refine⟨zaD se.1 sb.2,zaD sb.1 se.2,?_⟩
      refine ifD (λc2=>?_) (λc2=>?_)
      ·exact hn _ _ ⟨rfl,e,e,_,em,L.1 c1,em,M.1 c2,rfl⟩
      ·exact hn _ _ ⟨rfl,e,b,_,em,L.1 c1,hb,M.2 c2,rfl⟩
     ·refine⟨zaD se.1 sb.2,zaD sb.1 se.2,?_⟩
      refine ifD (λc2=>?_) (λc2=>?_)
      ·exact hn _ _ ⟨rfl,a,e,_,ha,L.2 c1,em,M.1 c2,rfl⟩
      ·exact hn _ _ ⟨rfl,a,b,_,ha,L.2 c1,hb,M.2 c2,rfl⟩
    ·rintro dl' S' ⟨rfl,a,b,u8,ha,la,hb,mb,rfl⟩
     rw[show (zav (Ob.lst (es.map frD))).length=es.length from Vab ..,List.take_length] at la mb
     exact h _ _ [(some a,some b)] (zdu prT _) (zaC _ _) (.inl ⟨out,a,b,by rw[hes4]; exact⟨ha,la⟩,by rw[hes4]; exact⟨hb,mb⟩,rfl⟩)
   refine ifD (λd=>?_) (λd=>?_)
   ·have out:y0 > 0∨y1<0:=.inr d
    have pos:=zkY (lo:=lo) (hi:=hi) (y:=(y0,y1)) hy out
    refine zkz (λdl2 S2=>Pre S S2∧S2[S.length]?=some (.lst ((zaU lo hi (y0,y1)).map frD))∧∃u4 u5:Option D,dl2=[some (.int lo),some (.int hi),some (.tup [.int y0,.int y1]),some (.ref S.length),u4,u5,none,none,none,none,none]) (λnx hn=>?_) ?_
    ·refine zdx (n:=(S++[Ob.lst []]).length) (o:=.lst ([lo,hi].map D.int)) (λi dl' S'=>i≤2∧Pre S S'∧S'[S.length]?=some (.lst (((zaU lo hi (y0,y1)).take (2*i)).map frD))∧S'[(S++[Ob.lst []]).length]?=some (.lst ([lo,hi].map D.int))∧∃u4 u5:Option D,dl'=[some (.int lo),some (.int hi),some (.tup [.int y0,.int y1]),some (.ref S.length),u4,u5,none,none,none,none,none]) ⟨by decide,λn o e=>zay (zay e),zay (zaC _ _),zaC _ _,_,_,rfl⟩ (λi dl' S' z=>z.2.2.2.1) ?_ ?_
     ·rintro i x dl' S' nx ct ex' ⟨hi2,pr',hE,hO,u4,u5,rfl⟩ hn
      have ex2:([lo,hi].map D.int)[i]?=some x:=ex'
      rw[Vah] at ex2
      obtain⟨t,ht,rfl⟩:=Vav.mp ex2
      have hi3:=(Vad.mp ht).1
      have l2:[lo,hi].length=2:=rfl
      have lE:=zd8 hE
      have lO:=zd8 hO
      refine zdx (n:=S'.length) (o:=.lst ([y0,y1].map D.int)) (λj dl' S2=>j≤2∧Pre S S2∧S2[S.length]?=some (.lst (((zaU lo hi (y0,y1)).take (2*i+j)).map frD))∧S2[(S++[Ob.lst []]).length]?=some (.lst ([lo,hi].map D.int))∧S2[S'.length]?=some (.lst ([y0,y1].map D.int))∧∃u5:Option D,dl'=[some (.int lo),some (.int hi),some (.tup [.int y0,.int y1]),some (.ref S.length),some (.int t),u5,none,none,none,none,none]) ⟨by decide,zdu pr' _,zay hE,zay hO,zaC _ _,_,rfl⟩ (λj dl' S2 z=>z.2.2.2.2.1) ?_ ?_
      ·rintro j x dl' S2 nx ct ex' ⟨hj2,pr2,hE2,hO2,hI2,u5,rfl⟩ hn
       have ex2:([y0,y1].map D.int)[j]?=some x:=ex'
       rw[Vah] at ex2
       obtain⟨b,hb,rfl⟩:=Vav.mp ex2
       have hj3:=(Vad.mp hb).1
       have l3:[y0,y1].length=2:=rfl
       have ea:=zmR ht hb
       refine zgA (n:=S.length) (S1:=S2) (xs:=((zaU lo hi (y0,y1)).take (2*i+j)).map frD) (y:=frD (nrm t b)) (λK hK=>by exact hK) hE2 (λK hK=>?_) (by rw[Vab,VaQ]; omega) ?_
       ·exact zl4 rfl hK
       ·refine hn _ _ ⟨by omega,zk7 pr2 (Vaa _),?_,zdi hO2 (by rw[VaD]; have e1:([Ob.lst []]:Sto).length=1:=rfl; omega),zdi hI2 (by omega),_,rfl⟩
        rw[show 2*i+(j+1)=2*i+j+1 by omega,zcV ea,List.map_append]
        exact zlq hE2
      ·rintro dl' S2 ⟨hj2,pr2,hE2,hO2,hI2,u5,rfl⟩
       exact hn _ _ ⟨by omega,pr2,hE2,hO2,_,_,rfl⟩
     ·rintro dl' S' ⟨hi2,pr',hE,hO,u4,u5,rfl⟩
      exact hn _ _ ⟨pr',hE,_,_,rfl⟩
    rintro dl2 T ⟨prT,hE,u4,u5,rfl⟩
    generalize hes4:zaU lo hi (y0,y1)=es at *
    have e0:es[0]?=some (nrm lo y0):=by rw[← hes4]; rfl
    have a0:nrm lo y0∈es:=Vat e0
    have at0:atI (es.map frD) 0=some (frD (nrm lo y0)):=zeh (j:=0) (by rw[Vah,e0]; rfl)
    refine zaJ (o:=.lst (es.map frD)) hE at0 ?_
    refine zaJ (o:=.lst (es.map frD)) hE at0 ?_
    refine zdx (n:=S.length) (o:=.lst (es.map frD)) (λi dl' S'=>T=S'∧∃(a b:Int×Int) (u8:Option D),a∈es∧(∀x∈es.take i,a.1*x.2≤x.1*a.2)∧b∈es∧(∀x∈es.take i,x.1*b.2≤b.1*x.2)∧dl'=[some (.int lo),some (.int hi),some (.tup [.int y0,.int y1]),some (.ref S.length),u4,u5,some (frD a),some (frD b),u8,none,none]) ⟨rfl,_,_,_,a0,λx hx=>(nomatch hx),a0,λx hx=>(nomatch hx),rfl⟩ (λi dl' S' z=>z.1 ▸ hE) ?_ ?_
    ·rintro i x dl' S' nx ct ex' ⟨rfl,a,b,u8,ha,la,hb,mb,rfl⟩ hn
     have ex2:(es.map frD)[i]?=some x:=ex'
     rw[Vah] at ex2
     obtain⟨e,he,rfl⟩:=Vav.mp ex2
     have em:=Vat he
     have se:=hes e em
     have sa:=hes a ha
     have sb:=hes b hb
     have L:=zmT pos he ha la
     have M:=zmQ pos he hb mb
     refine⟨zaD se.1 sa.2,zaD sa.1 se.2,?_⟩
     refine ifD (λc1=>?_) (λc1=>?_)
     ·refine⟨zaD se.1 sb.2,zaD sb.1 se.2,?_⟩
      refine ifD (λc2=>?_) (λc2=>?_)
      ·exact hn _ _ ⟨rfl,e,e,_,em,L.1 c1,em,M.1 c2,rfl⟩
      ·exact hn _ _ ⟨rfl,e,b,_,em,L.1 c1,hb,M.2 c2,rfl⟩
     ·refine⟨zaD se.1 sb.2,zaD sb.1 se.2,?_⟩
      refine ifD (λc2=>?_) (λc2=>?_)
      ·exact hn _ _ ⟨rfl,a,e,_,ha,L.2 c1,em,M.1 c2,rfl⟩
      ·exact hn _ _ ⟨rfl,a,b,_,ha,L.2 c1,hb,M.2 c2,rfl⟩
    ·rintro dl' S' ⟨rfl,a,b,u8,ha,la,hb,mb,rfl⟩
     rw[show (zav (Ob.lst (es.map frD))).length=es.length from Vab ..,List.take_length] at la mb
     exact h _ _ [(some a,some b)] (zdu prT _) (zaC _ _) (.inl ⟨out,a,b,by rw[hes4]; exact⟨ha,la⟩,by rw[hes4]; exact⟨hb,mb⟩,rfl⟩)
   dsimp only[L3.zkt]
   refine zmK (λdl2 S2=>S++[Ob.lst []]=S2∧dl2=[some (.int lo),some (.int hi),some (.tup [.int y0,.int y1]),none,none,none,none,none,none,some (.ref S.length),some (.int (zaK lo hi))]) (λnx hn=>?_) ?_
   ·have ee:∀c:hi<0,zaK lo hi=hi:=λc=>if_pos c
    have en:∀c:¬ hi<0,zaK lo hi=lo:=λc=>if_neg c
    refine ifD (λc=>?_) (λc=>?_)
    ·exact hn _ _ ⟨rfl,by rw[ee c]; rfl⟩
    ·exact hn _ _ ⟨rfl,by rw[en c]; rfl⟩
   rintro dl2 S2 ⟨rfl,rfl⟩
   refine zdx (n:=(S++[Ob.lst []]).length) (o:=.lst ([y0,y1].map D.int)) (λj dl' S'=>j≤2∧Pre S S'∧S'[S.length]?=some (.lst ((pcl (zaK lo hi) ([y0,y1].take j)).map pcD))∧S'[(S++[Ob.lst []]).length]?=some (.lst ([y0,y1].map D.int))∧∃u5:Option D,dl'=[some (.int lo),some (.int hi),some (.tup [.int y0,.int y1]),none,none,u5,none,none,none,some (.ref S.length),some (.int (zaK lo hi))]) ⟨by decide,λn o e=>zay (zay e),zay (zaC _ _),zaC _ _,_,rfl⟩ (λj dl' S' z=>z.2.2.2.1) ?_ ?_
   ·rintro j x dl' S' nx ct ex' ⟨hj2,pr',hP,hO,u5,rfl⟩ hn
    have ex2:([y0,y1].map D.int)[j]?=some x:=ex'
    rw[Vah] at ex2
    obtain⟨b,hb,rfl⟩:=Vav.mp ex2
    have hj3:=(Vad.mp hb).1
    have l3:[y0,y1].length=2:=rfl
    have lP:=zd8 hP
    have en:=zjL (zaK lo hi) ([y0,y1].take j) b
    rw[← zcV hb] at en
    have lpc:(pcl (zaK lo hi) ([y0,y1].take j)).length≤2:=by
     rcases j with _ | _ | j
     ·exact VaU _
     ·show (pcl (zaK lo hi) ([]++[y0])).length≤2
      rw[zjL]
      split <;> simp[pcl]
     ·omega
    have keep:b=0→nx [some (.int lo),some (.int hi),some (.tup [.int y0,.int y1]),none,none,some (.int b),none,none,none,some (.ref S.length),some (.int (zaK lo hi))] S':=λe=>hn _ _ ⟨by omega,pr',by rw[en,if_pos e,VaJ]; exact hP,hO,_,rfl⟩
    have put:∀d:D,b≠0→d=pcD (pcB (zaK lo hi) b)→nx [some (.int lo),some (.int hi),some (.tup [.int y0,.int y1]),none,none,some (.int b),none,none,none,some (.ref S.length),some (.int (zaK lo hi))] (S'.set S.length (.lst ((pcl (zaK lo hi) ([y0,y1].take j)).map pcD++[d]))):=λd e ed=>hn _ _ ⟨by omega,zk7 pr' (Vaa _),by rw[en,if_neg e,List.map_append,ed]; exact zlq hP,zdi hO (by rw[VaD]; have e1:([Ob.lst []]:Sto).length=1:=rfl; omega),_,rfl⟩
    refine ifN (λc1=>?_) (λc1=>?_)
    ·refine ifD (λc2=>?_) (λc2=>?_)
     ·refine zgA (n:=S.length) (S1:=S') (xs:=(pcl (zaK lo hi) ([y0,y1].take j)).map pcD) (y:=.tup [.tup [.int (abI (zaK lo hi)),.int (abI b)],.non]) (λK hK=>by exact hK) hP (λK hK=>by exact hK) (by rw[Vab]; omega) ?_
      exact put _ c1 (by unfold pcB; rw[if_pos c2]; rfl)
     ·refine ifN (λc3=>?_) (λc3=>absurd c3 c1)
      refine zgA (n:=S.length) (S1:=S') (xs:=(pcl (zaK lo hi) ([y0,y1].take j)).map pcD) (y:=.tup [.non,.tup [.int (-abI (zaK lo hi)),.int (abI b)]]) (λK hK=>by exact hK) hP (λK hK=>by exact hK) (by rw[Vab]; omega) ?_
      exact put _ c1 (by unfold pcB; rw[if_neg c2]; rfl)
    ·refine ifN (λc3=>absurd c1 c3) (λ_=>?_)
     exact keep c1
   ·rintro dl' S' ⟨hj2,pr',hP,hO,u5,rfl⟩
    refine h S' S.length _ pr' hP (.inr ⟨⟨by omega,by omega⟩,?_⟩)
    show pcl (zaK lo hi) ([]++[y0]++[y1])=_
    rw[zjL,zjL]
    rfl
  ·exact h.elim⟩)
def zrI  (zhP:Df K mg "_law_quot" zfy zfh)(zdS:Fk P w K mg base 1 "_law_hulled" zeD zd7)(zk6:Fk P w K mg base 1 "_law_pieces" zeX zgv)(zkZ:Fk P w K mg base 1 "_law_kept" zfw zfR):Fk P w K mg base 2 "_law_quot" zfh zfY:=
 zhP.mk' (zaA (k:=1) zhP.F zoB (zqQ) λcdv A outer s H E hr=>⟨_,(zae (zas (PDW.pt (zf6 (zkK zcq zcq (zad (dv 0) zab (λ_ _=>rfl)) zab (zad (dv 0) zab (λ_ _=>rfl))) (zfV (zkK zcq zcq (zad (dv 2) zab (λ_ _=>rfl)) zab (zad (dv 2) zab (λ_ _=>rfl)))))) (zaf (zak (dv 1))) zau) (zaf (zak (zaq zdS hr (zaa (zkm (x:="_law_piece") (N:=["_law_x"]) (caps:=[1]) (ar:=zat zfy) rfl rfl csc rfl (by decide) (zaq zk6 hr (zaa (zag zaN (zad (dv 0) zab (λ_ _=>rfl)) (dv 3)) (zaa (zag zaN (zad (dv 0) zab (λ_ _=>rfl)) (dv 3)) (zaa (dv 2) zac)))) (λ_ _ _ _ _ _=>zfo) (λ_ _ _ _ _ _=>(zaq zkZ hr (zaa (dv 1) (zaa (dv 0) zac))))) zac))))),λds S Q ex h=>by
  unfold zfY at h
  split at h
  ·rename_i z0 z1 x0 x1 y0 y1 g
   obtain⟨⟨⟨hz,hx,hy⟩,hg,sz0,sz1,sx0,sx1,sy0,sy1⟩,h1,h2⟩:=h
   have sg:Sz 21 g:=Sz.of 1000000 (by omega)
   have m0:Sz 1100 (z0*g):=(sz0.mul sg).mono (by decide)
   have m1:Sz 1100 (z1*g):=(sz1.mul sg).mono (by decide)
   have m0:Sz 1100 (z0*g):=(sz0.mul sg).mono (by decide)
   have m1:Sz 1100 (z1*g):=(sz1.mul sg).mono (by decide)
   refine zqp (λdl2 S2=>S=S2∧¬ ((y0≤0∧0≤y1)∧z0≤0∧0≤z1)∧dl2=[some (.tup [.int z0,.int z1]),some (.tup [.int x0,.int x1]),some (.tup [.int y0,.int y1]),some (.int g)]) (λnx hn=>?_) ?_
   ·refine ifD (λc1=>?_) (λc1=>hn _ _ ⟨rfl,λq=>c1 q.2.1,rfl⟩)
    refine ifD (λc2=>?_) (λc2=>hn _ _ ⟨rfl,λq=>c2 q.2.2,rfl⟩)
    refine ifD (λc3=>?_) (λc3=>hn _ _ ⟨rfl,λq=>c3 q.1.1,rfl⟩)
    refine ifD (λc4=>?_) (λc4=>hn _ _ ⟨rfl,λq=>c4 q.1.2,rfl⟩)
    exact h2 (x0,x1) (if_pos ⟨⟨c3,c4⟩,c1,c2⟩) S Pre.refl
   rintro dl2 S2 ⟨rfl,nb,rfl⟩
   refine zsk (λT m=>Pre S T∧∃ps:List (Option (Int×Int)×Option (Int×Int)),T[m]?=some (.lst (ps.map pcD))∧zjd (z0*g) (z1*g) (y0,y1) ps) (λK hK=>?_) (λT m P tl' htl=>?_)
   ·exact⟨zaD sz0 sg,zaD sz1 sg,⟨hy,m0,m1,sy0.mono (by decide),sy1.mono (by decide)⟩,λT m ps pr hT ok=>hK T m ⟨pr,ps,hT,ok⟩⟩
   obtain⟨pr,ps,hT,ok⟩:=P
   obtain⟨l2,sz⟩:=zrf (y:=(y0,y1)) hy (sy0.mono (by decide)) (sy1.mono (by decide)) ok
   have hl:=zpZ (z:=(z0,z1)) (x:=(x0,x1)) (y:=(y0,y1)) hz hx hy hg.1 nb ok
   have ip:zav (Ob.lst (ps.map pcD))=ps.map pcD:=rfl
   refine zni (n:=m) (o:=.lst (ps.map pcD)) (S1:=T) (λk d=>∃pc,ps[k]?=some pc∧d=opD (kpS (x0,x1) pc.1 pc.2)) htl hT (by rw[ip,Vab]; omega) (λk x hx S2 K pr2 hK=>?_) (λxs lx hx=>?_)
   ·rw[ip,Vah] at hx
    obtain⟨pc,hpc,rfl⟩:=Vav.mp hx
    have z:=sz pc (Vat hpc)
    exact⟨pc.1,pc.2,rfl,⟨sx0.mono (by decide),sx1.mono (by decide)⟩,z.1,z.2,λe=>hK _ ⟨pc,hpc,by rw[e]; rfl⟩,λp e=>hK _ ⟨pc,hpc,by rw[e]; rfl⟩⟩
   have exs:xs=(ps.map λpc=>kpS (x0,x1) pc.1 pc.2).map opD:=by
    refine List.ext_getElem? λk=>?_
    rw[Vah,Vah]
    cases e:xs[k]? with
    | some d=>
     obtain⟨pc,hpc,rfl⟩:=hx k d e
     rw[hpc]
     rfl
    | none=>
     have l:=Vay.mp e
     rw[lx,ip,Vab] at l
     rw[Vay.mpr l]
     rfl
   subst exs
   refine⟨_,zaC _ _,by rw[Vab]; omega,λe T2 pr2=>?_,λp e T2 pr2=>?_⟩
   ·exact h1 (by rw[← hl]; exact e) T2 (λn o q=>pr2 _ _ (zay (pr _ _ q)))
   ·exact h2 p (by rw[← hl]; exact e) T2 (λn o q=>pr2 _ _ (zay (pr _ _ q)))
  ·exact h.elim⟩)
def zqT  (zhx:Df K mg "_law_root" zjJ zfA)(zbx:Fk P w K mg base 1 "_law_power" zdb zcT):Fk P w K mg base 2 "_law_root" zfA zgd:=
 zhx.mk' (zaA (k:=1) zhx.F zdU (zoK) λcdv A outer s H E hr=>⟨_,(zae (zal (i:=3) zdU.nd rfl (Or.inl rfl) zab) (zae (zal (i:=4) zdU.nd rfl (Or.inl rfl) (zag za5 (dv 2) zab)) (zae (zl1 PassesOwn.never (zan zbS (zag zbr (dv 4) (dv 3)) zab (zam _)) (zae (zal (i:=5) zdU.nd rfl (Or.inl rfl) (zag zbq (zag za5 (dv 3) (dv 4)) zab)) (zaf (zas (zan zcq (zaq zbx hr (zaa (dv 5) (zaa (dv 1) zac))) (dv 0) (zam _)) (zaf (zal (i:=3) zdU.nd rfl (Or.inl rfl) (dv 5))) (zaf (zal (i:=4) zdU.nd rfl (Or.inl rfl) (dv 5))))))) (zaf (zak (dv 3)))))),λds S Q ex h=>by
  unfold zgd at h
  split at h
  ·rename_i N n m
   obtain⟨⟨n2,n6,h0,m0,sm⟩,h⟩:=h
   have hn:1≤n.toNat:=by omega
   refine⟨λk dl' S'=>S=S'∧∃(lo hi:Int) (u:Option D),dl'=[some (.int N),some (.int n),some (.int m),some (.int lo),some (.int hi),u]∧0≤lo∧lo<hi∧hi≤m+1∧lo^n.toNat≤N∧(hi=m+1∨N<hi^n.toNat)∧k=(hi-lo).toNat,⟨_,rfl,0,m+1,_,rfl,by omega,by omega,by omega,by rw[zef hn]; exact h0,.inl rfl,rfl⟩,?_⟩
   rintro k dl' S' ⟨rfl,lo,hi,u,rfl,l0,lh,hm,pl,ph,rfl⟩
   refine ifD (λc=>?_) (λc=>?_)
   ·have b1:lo<(lo+hi)/2:=by omega
    have b2:(lo+hi)/2<hi:=by omega
    have sp:Sz 1101 ((lo+hi)/2):=Sz.mid (a:=0) (b:=m+1) (Sz.of 0 (by decide) (Nat.pow_pos (by decide))) (sm.add (Sz.of (n:=1) 1 (by decide))) (by omega) (by omega)
    refine⟨⟨by omega,n6,sp.mono (by decide)⟩,?_⟩
    refine ifD (λe=>?_) (λe=>?_)
    ·exact⟨_,by omega,rfl,(lo+hi)/2,hi,_,rfl,by omega,b2,hm,e,ph,rfl⟩
    ·exact⟨_,by omega,rfl,lo,(lo+hi)/2,_,rfl,l0,b1,by omega,pl,.inr (by omega),rfl⟩
   ·have eh:hi=lo+1:=by omega
    subst eh
    have z:=zo6 hn h0 l0 (show lo≤m by omega) pl (by rcases ph with q | q; exact .inl (by omega); exact .inr q)
    rw[← z] at h
    exact h
  ·exact h.elim⟩)
def zpV  (zgT:Df K mg "_law_down" zj5 zgb)(zbx:Fk P w K mg base 1 "_law_power" zdb zcT)(zi7:Fk P w K mg base 2 "_law_root" zfA zgd):Fk P w K mg base 3 "_law_down" zgb zff:=
 zgT.mk' (zaA (k:=2) zgT.F zlI (zq8) λcdv A outer s H E hr=>⟨_,(zae (zas (zan do_ge (dv 0) zab (zam _)) (zaf (zak (zaq zi7 hr (zaa (dv 0) (zaa (dv 1) (zaa (dv 2) zac)))))) zau) (zae (zal (i:=3) zlI.nd rfl (Or.inl rfl) (zaq zi7 hr (zaa (zaT zaS (dv 0)) (zaa (dv 1) (zaa (dv 2) zac))))) (zae (zas (zan zbp (zaq zbx hr (zaa (dv 3) (zaa (dv 1) zac))) (zaT zaS (dv 0)) (zam _)) (zaf (zal (i:=3) zlI.nd rfl (Or.inl rfl) (zag za5 (dv 3) zab))) zau) (zaf (zak (zaT zaS (dv 3))))))),λds S Q ex h=>by
  unfold zff at h
  split at h
  ·rename_i N n m
   obtain⟨⟨n2,n6,m0,sm⟩,h⟩:=h
   have hn:1≤n.toNat:=by omega
   refine ifD (λc=>?_) (λc=>?_)
   ·refine⟨⟨n2,n6,c,m0,sm⟩,?_⟩
    unfold dnS at h
    rw[if_pos c] at h
    exact h
   ·refine⟨⟨n2,n6,by omega,m0,sm⟩,?_⟩
    have z:=λr e=>zse (N:=N) (m:=m) (r:=r) hn (by omega) m0 e
    have b0:=(ziT (N:=-N) hn (by omega)).1
    have z2:=z _ rfl
    have sr:Sz 2000 (if rbS (-N) n.toNat<m then rbS (-N) n.toNat else m):=Sz.mid (a:=0) (b:=m) (Sz.of 0 (by decide) (Nat.pow_pos (by decide))) (sm.mono (by decide)) (by split <;> omega) (by split <;> omega)
    refine⟨⟨by omega,n6,sr⟩,?_⟩
    rw[← z2] at h
    refine ifD (λe=>?_) (λe=>?_)
    ·rw[if_pos e] at h
     exact h
    ·rw[if_neg e] at h
     exact h
  ·exact h.elim⟩)
def zoe  (zhK:Df K mg "_law_root_kept" zhw zfJ)(zev:Fk P w K mg base 3 "_law_down" zgb zff)(zaX:mg "min"=none)(zaG:mg "max"=none)(zbt:mg "abs"=none):Fk P w K mg base 4 "_law_root_kept" zfJ zfb:=
 zhK.mk' (zaA (k:=3) zhK.F znu (zp6) λcdv A outer s H E hr=>⟨_,(zae (zal (i:=4) znu.nd rfl (Or.inl rfl) (zag za5 (zaH (zbw rfl) rfl zaG Boot.«max» (zaa (zaH zeu rfl zbt Boot.«abs» (zaa (zad (dv 0) zab (λ_ _=>rfl)) zac)) (zaa (zaH zeu rfl zbt Boot.«abs» (zaa (zad (dv 0) zab (λ_ _=>rfl)) zac)) zac))) zab)) (zae (zas (PDW.pt (zca (zan zbS (zaT zaS (zaq zev hr (zaa (zaT zaS (dv 1)) (zaa (dv 3) (zaa (dv 4) zac))))) (zad (dv 0) zab (λ_ _=>rfl)) (zam _)) (zcM (zan zbp (zaq zev hr (zaa (dv 2) (zaa (dv 3) (zaa (dv 4) zac)))) (zad (dv 0) zab (λ_ _=>rfl)) (zam _))))) (zaf (zak zaF)) zau) (zaf (zak (zaB (zaa (zaH (zbw rfl) rfl zaG Boot.«max» (zaa (zad (dv 0) zab (λ_ _=>rfl)) (zaa (zaq zev hr (zaa (dv 1) (zaa (dv 3) (zaa (dv 4) zac)))) zac))) (zaa (zaH (zcD rfl) rfl zaX Boot.«min» (zaa (zad (dv 0) zab (λ_ _=>rfl)) (zaa (zaT zaS (zaq zev hr (zaa (zaT zaS (dv 2)) (zaa (dv 3) (zaa (dv 4) zac))))) zac))) zac))))))),λds S Q ex h=>by
  unfold zfb at h
  split at h
  ·rename_i x0 x1 lo hi n
   obtain⟨⟨n2,n6,hx,s0,s1⟩,h1,h2⟩:=h
   have hn:1≤n.toNat:=by omega
   have a0:Sz 1000 (if x0<0 then -x0 else x0):=by split; exact s0.neg; exact s0
   have a1:Sz 1000 (if x1<0 then -x1 else x1):=by split; exact s1.neg; exact s1
   have p0:(if x0<0 then -x0 else x0)=(x0.natAbs:Int):=by split <;> omega
   have p1:(if x1<0 then -x1 else x1)=(x1.natAbs:Int):=by split <;> omega
   have big:∀u v:Int,0≤u→0≤v→Sz 1000 u→Sz 1000 v→(u+1≤(if v > u then v else u)+1∧v+1≤(if v > u then v else u)+1)∧Sz 1100 ((if v > u then v else u)+1):=λu v _ _ su sv=>by
    refine⟨by split <;> omega,Sz.mono (m:=1001) (Sz.add (m:=1000) (n:=1) ?_ (Sz.of 1 (by decide))) (by decide)⟩
    split
    ·exact sv
    ·exact su
   obtain⟨⟨m1,m2⟩,sm⟩:=big _ _ (by rw[p0]; omega) (by rw[p1]; omega) a0 a1
   have m1':(x0.natAbs:Int)+1≤((if (if x1<0 then -x1 else x1) > (if x0<0 then -x0 else x0) then (if x1<0 then -x1 else x1) else (if x0<0 then -x0 else x0))+1):=by rw[← p0]; exact m1
   have m2':(x1.natAbs:Int)+1≤((if (if x1<0 then -x1 else x1) > (if x0<0 then -x0 else x0) then (if x1<0 then -x1 else x1) else (if x0<0 then -x0 else x0))+1):=by rw[← p1]; exact m2
   have hr:=rk_eq (x:=(x0,x1)) (lo:=lo) (hi:=hi) (m:=((if (if x1<0 then -x1 else x1) > (if x0<0 then -x0 else x0) then (if x1<0 then -x1 else x1) else (if x0<0 then -x0 else x0))+1)) hn hx m1' m2'
   have m0:0≤((if (if x1<0 then -x1 else x1) > (if x0<0 then -x0 else x0) then (if x1<0 then -x1 else x1) else (if x0<0 then -x0 else x0))+1):=by omega
   rw[← hr] at h1 h2
   unfold rkS at h1 h2
   refine⟨⟨n2,n6,m0,sm⟩,?_⟩
   refine ifD (λc1=>h1 (if_pos (.inl c1))) (λc1=>?_)
   refine⟨⟨n2,n6,m0,sm⟩,?_⟩
   refine ifD (λc2=>h1 (if_pos (.inr c2))) (λc2=>?_)
   refine⟨⟨n2,n6,m0,sm⟩,?_⟩
   refine⟨⟨n2,n6,m0,sm⟩,?_⟩
   have z:=h2 (if dnS lo n.toNat ((if (if x1<0 then -x1 else x1) > (if x0<0 then -x0 else x0) then (if x1<0 then -x1 else x1) else (if x0<0 then -x0 else x0))+1) > x0 then dnS lo n.toNat ((if (if x1<0 then -x1 else x1) > (if x0<0 then -x0 else x0) then (if x1<0 then -x1 else x1) else (if x0<0 then -x0 else x0))+1) else x0,if -dnS (-hi) n.toNat ((if (if x1<0 then -x1 else x1) > (if x0<0 then -x0 else x0) then (if x1<0 then -x1 else x1) else (if x0<0 then -x0 else x0))+1)<x1 then -dnS (-hi) n.toNat ((if (if x1<0 then -x1 else x1) > (if x0<0 then -x0 else x0) then (if x1<0 then -x1 else x1) else (if x0<0 then -x0 else x0))+1) else x1) (if_neg λq=>q.elim c1 c2)
   exact z
  ·exact h.elim⟩)
def zsV  (zjh:Df K mg "_law_rooted" zg7 zgj)(zdS:Fk P w K mg base 1 "_law_hulled" zeD zd7)(ze9:Fk P w K mg base 4 "_law_root_kept" zfJ zfb)(zbx:Fk P w K mg base 1 "_law_power" zdb zcT)(zaG:mg "max"=none):Fk P w K mg base 5 "_law_rooted" zgj zgm:=
 zjh.mk' (zaA (k:=4) zjh.F zdt (zqr) λcdv A outer s H E hr=>⟨_,(zae (zal (i:=4) zdt.nd rfl (Or.inl rfl) (zaq zbx hr (zaa (dv 3) (zaa (zag zbr (dv 2) zab) zac)))) (zae (zal (i:=5) zdt.nd rfl (Or.inl rfl) (zag zaN (zad (dv 0) zab (λ_ _=>rfl)) (dv 4))) (zae (zal (i:=6) zdt.nd rfl (Or.inl rfl) (zag zaN (zad (dv 0) zab (λ_ _=>rfl)) (dv 4))) (zae (zas (zan (zaI hr) (zag zbf (dv 2) zab) zab (zam _)) (zaf (zak (zaq ze9 hr (zaa (dv 1) (zaa (dv 5) (zaa (dv 6) (zaa (dv 2) zac))))))) zau) (zae (zas (zan zbp (dv 6) zab (zam _)) (zaf (zak zaF)) zau) (zae (zal (i:=7) zdt.nd rfl (Or.inl rfl) (zaq ze9 hr (zaa (dv 1) (zaa (zaH (zbw rfl) rfl zaG Boot.«max» (zaa (dv 5) (zaa zab zac))) (zaa (dv 6) (zaa (dv 2) zac)))))) (zae (zal (i:=8) zdt.nd rfl (Or.inl rfl) (zaq ze9 hr (zaa (zaB (zaa (zaT zaS (zad (dv 1) zab (λ_ _=>rfl))) (zaa (zaT zaS (zad (dv 1) zab (λ_ _=>rfl))) zac))) (zaa (zaH (zbw rfl) rfl zaG Boot.«max» (zaa (dv 5) (zaa zab zac))) (zaa (dv 6) (zaa (dv 2) zac)))))) (zae (zas (zan zh2 (dv 8) zaF (zam _)) (zaf (zal (i:=8) zdt.nd rfl (Or.inl rfl) (zaB (zaa (zaT zaS (zad (dv 8) zab (λ_ _=>rfl))) (zaa (zaT zaS (zad (dv 8) zab (λ_ _=>rfl))) zac))))) zau) (zaf (zak (zaq zdS hr (zaa (zbe (zaa (dv 7) (zaa (dv 8) zac))) zac)))))))))))),λds S Q ex h=>by
  unfold zgm at h
  split at h
  ·rename_i z0 z1 x0 x1 n g
   obtain⟨⟨n2,n6,hg,hx,sz0,sz1,sx0,sx1⟩,h1,h2⟩:=h
   have sg:Sz 21 g:=Sz.of 1000000 (by omega)
   have gp:Sz 181 (g^(n-1).toNat):=(sg.pow _).mono (by omega)
   refine⟨⟨by omega,by omega,sg.mono (by decide)⟩,?_⟩
   refine⟨zaD sz0 gp,zaD sz1 gp,?_⟩
   unfold bpS at h1 h2
   refine ifD (λe=>?_) (λe=>?_)
   ·rw[if_pos e] at h1 h2
    exact⟨⟨n2,n6,hx,sx0,sx1⟩,λq=>h1 q S Pre.refl,λp q=>h2 p q S Pre.refl⟩
   ·rw[if_neg e] at h1 h2
    refine ifD (λe2=>?_) (λe2=>?_)
    ·exact h1 (if_pos e2) S Pre.refl
    ·rw[if_neg e2] at h1 h2
     rw[← zrW] at h1 h2
     have last:∀o1 o2:Option (Int×Int),o1=ptB (x0,x1) (rtS (mx0 (z0*g^(n-1).toNat)) n.toNat) (rtS (z1*g^(n-1).toNat) n.toNat)→o2=ptB (-x1,-x0) (rtS (mx0 (z0*g^(n-1).toNat)) n.toNat) (rtS (z1*g^(n-1).toNat) n.toNat)→∃os:List (Option (Int×Int)),(S++[Ob.lst [opD o1,opD (zgX o2)]])[S.length]?=some (.lst (os.map opD))∧os.length≤10∧(hlS os=none→∀T:Sto,Pre (S++[Ob.lst [opD o1,opD (zgX o2)]]) T→Q .non T)∧∀p,hlS os=some p→∀T:Sto,Pre (S++[Ob.lst [opD o1,opD (zgX o2)]]) T→Q (frD p) T:=λo1 o2 e1 e2=>by
      subst e1 e2
      exact⟨[_,zgX _],zaC _ _,Nat.le_of_ble_eq_true rfl,λq T pr=>h1 (by rw[hlS,hlS,hlS,zfB] at q; exact q) T (λn o y=>pr _ _ (zay y)),λp q T pr=>h2 p (by rw[hlS,hlS,hlS,zfB] at q; exact q) T (λn o y=>pr _ _ (zay y))⟩
     refine⟨⟨n2,n6,hx,sx0,sx1⟩,λq1=>?_,λr1 q1=>?_⟩
     ·refine⟨⟨n2,n6,by omega,sx1.neg,sx0.neg⟩,λq2=>?_,λr2 q2=>?_⟩
      ·exact last none none q1.symm q2.symm
      ·exact last none (some r2) q1.symm q2.symm
     ·refine⟨⟨n2,n6,by omega,sx1.neg,sx0.neg⟩,λq2=>?_,λr2 q2=>?_⟩
      ·exact last (some r1) none q1.symm q2.symm
      ·exact last (some r1) (some r2) q1.symm q2.symm
  ·exact h.elim⟩)
def zsC  (zhm:Df K mg "_law_back_part" zkf zfW)(zhr:Fk P w K mg base 2 "_law_quot" zfh zfY)(zlE:Fk P w K mg base 5 "_law_rooted" zgj zgm):Fk P w K mg base 6 "_law_back_part" zfW zga:=
 zhm.mk' (zaA (k:=5) zhm.F zeO (zox) λcdv A outer s H E hr=>⟨_,(zae (zas (zan (zaI hr) (zad (dv 0) zab (λ_ _=>rfl)) za9 (zam _)) (zae (zal (i:=4) zeO.nd rfl (Or.inl rfl) (zaq zlE hr (zaa (dv 2) (zaa (za1 (dv 1) (zad (dv 0) zab (λ_ _=>rfl)) (λ_ _=>rfl)) (zaa (zad (dv 0) zab (λ_ _=>rfl)) (zaa (dv 3) zac)))))) (zae (zas (zan zbE (dv 4) zaF (zam _)) (zaf (zak zaF)) zau) (zaf (zak (zbe (zaa (zaB (zaa (zad (dv 0) zab (λ_ _=>rfl)) (zaa (dv 4) zac))) zac)))))) zau) (zae (zal (i:=4) zeO.nd rfl (Or.inl rfl) (zaq zhr hr (zaa (dv 2) (zaa (za1 (dv 1) (zad (dv 0) zab (λ_ _=>rfl)) (λ_ _=>rfl)) (zaa (za1 (dv 1) (zad (dv 0) zab (λ_ _=>rfl)) (λ_ _=>rfl)) (zaa (dv 3) zac)))))) (zae (zas (zan zbE (dv 4) zaF (zam _)) (zaf (zak zaF)) zau) (zae (zal (i:=5) zeO.nd rfl (Or.inl rfl) (za1 (dv 1) (zad (dv 0) zab (λ_ _=>rfl)) (λ_ _=>rfl))) (zae (zas (zan (zaI hr) (zad (dv 0) zab (λ_ _=>rfl)) (zad (dv 0) zab (λ_ _=>rfl)) (zam _)) (zaf (zal (i:=5) zeO.nd rfl (Or.inl rfl) (dv 4))) zau) (zae (zal (i:=5) zeO.nd rfl (Or.inl rfl) (zaq zhr hr (zaa (dv 2) (zaa (dv 5) (zaa (dv 4) (zaa (dv 3) zac)))))) (zae (zas (zan zbE (dv 5) zaF (zam _)) (zaf (zak zaF)) zau) (zaf (zak (zbe (zaa (zaB (zaa (zad (dv 0) zab (λ_ _=>rfl)) (zaa (dv 4) zac))) (zaa (zaB (zaa (zad (dv 0) zab (λ_ _=>rfl)) (zaa (dv 5) zac))) zac)))))))))))),λds S Q ex h=>by
  unfold zga at h
  split at h
  ·rename_i d w z0 z1 g
   obtain⟨v,vs,q,hv,rfl,hw,ok,hs,⟨hz,sz0,sz1⟩,hg,h1,h2⟩:=h
   rcases hv with ⟨i,j,rfl⟩ | ⟨i,n,rfl⟩
   ·have a:=hs.at ok.1
    have b:=hs.at ok.2
    refine zaJ (o:=.lst (vs.map frD)) hw (zaY ok.1) ?_
    refine zaJ (o:=.lst (vs.map frD)) hw (zaY ok.2) ?_
    refine⟨⟨⟨hz,a.1,b.1⟩,hg,sz0,sz1,a.2.1,a.2.2,b.2.1,b.2.2⟩,λe T pr=>?_,λx' e T pr=>?_⟩
    ·refine h1 ?_ T pr
     unfold Nd.bk bk2
     dsimp only
     rw[show btS (z0,z1) (gt vs i) (gt vs j) g=none from e]
    ·refine zaJ (o:=.lst (vs.map frD)) (pr _ _ hw) (zaY ok.2) ?_
     refine ifD (λc=>?_) (λc=>?_)
     ·skip
      have zx:=Sz.in2 a.2.1 a.2.2 (zgl (z:=(z0,z1)) hz a.1 b.1 hg.1 x' e)
      refine⟨⟨⟨hz,zx.1,zx.1⟩,hg,sz0,sz1,zx.2.1,zx.2.2,zx.2.1,zx.2.2⟩,λe2 T2 pr2=>?_,λy' e2 T2 pr2=>?_⟩
      ·refine h1 ?_ T2 (pr.trans pr2)
       unfold Nd.bk bk2
       dsimp only
       rw[show btS (z0,z1) (gt vs i) (gt vs j) g=some x' from e]
       dsimp only
       rw[if_pos c,show btS (z0,z1) x' x' g=none from e2]
      ·refine h2 [(i,x'),(j,y')] ?_ _ _ (zdu (pr.trans pr2) _) (zaC _ _)
       unfold Nd.bk bk2
       dsimp only
       rw[show btS (z0,z1) (gt vs i) (gt vs j) g=some x' from e]
       dsimp only
       rw[if_pos c,show btS (z0,z1) x' x' g=some y' from e2]
     ·skip
      have zx:=Sz.in2 a.2.1 a.2.2 (zgl (z:=(z0,z1)) hz a.1 b.1 hg.1 x' e)
      refine⟨⟨⟨hz,b.1,zx.1⟩,hg,sz0,sz1,b.2.1,b.2.2,zx.2.1,zx.2.2⟩,λe2 T2 pr2=>?_,λy' e2 T2 pr2=>?_⟩
      ·refine h1 ?_ T2 (pr.trans pr2)
       unfold Nd.bk bk2
       dsimp only
       rw[show btS (z0,z1) (gt vs i) (gt vs j) g=some x' from e]
       dsimp only
       rw[if_neg c,show btS (z0,z1) (gt vs j) x' g=none from e2]
      ·refine h2 [(i,x'),(j,y')] ?_ _ _ (zdu (pr.trans pr2) _) (zaC _ _)
       unfold Nd.bk bk2
       dsimp only
       rw[show btS (z0,z1) (gt vs i) (gt vs j) g=some x' from e]
       dsimp only
       rw[if_neg c,show btS (z0,z1) (gt vs j) x' g=some y' from e2]
   ·have a:=hs.at ok.1
    refine zaJ (o:=.lst (vs.map frD)) hw (zaY ok.1) ?_
    refine⟨⟨ok.2.1,ok.2.2,hg,a.1,sz0,sz1,a.2.1,a.2.2⟩,λe T pr=>?_,λx' e T pr=>?_⟩
    ·refine h1 ?_ T pr
     show (match bpS (z0,z1) (gt vs i) n g with | none=>none | some x=>some [(i,x)])=none
     rw[show bpS (z0,z1) (gt vs i) n g=none from e]
    ·refine h2 [(i,x')] ?_ _ _ (zdu pr _) (zaC _ _)
     show (match bpS (z0,z1) (gt vs i) n g with | none=>none | some x=>some [(i,x)])=_
     rw[show bpS (z0,z1) (gt vs i) n g=some x' from e]
  ·exact h.elim⟩)
def zpP  (zaj:zbN K mg)(zjO:Dm K zaj.C "__init__" "Pair.__init__" zi2 zdP):Fm P w K mg base 1 zaj.C "__init__" zdP (zdX zaj.C):=
 zjO.mk' (zaA (k:=0) zjO.F zsU (zpv zaj.C) λcdv A outer s H E hr=>⟨_,(zae (zb9 zaj.cl zaj.n_one (dv 0) (dv 1)) (zaf (zb9 zaj.cl zaj.n_other (dv 0) (dv 2)))),λds S Q ex h=>by
  unfold zdX at h
  split at h
  ·rename_i n x y
   obtain⟨T,rfl,rfl,h⟩:=h
   refine zb8 (v:=x) (S1:=T++[Ob.ins zaj.C []]) (S2:=T++[Ob.ins zaj.C []]) (n:=T.length) (fs:=[]) (λK hK=>by exact hK) (λK hK=>by exact hK) (zcl ..) (by simp) ?_
   rw[zco]
   refine zb8 (v:=y) (S1:=T++[Ob.ins zaj.C [("one",x)]]) (S2:=T++[Ob.ins zaj.C [("one",x)]]) (n:=T.length) (fs:=[("one",x)]) (λK hK=>by exact hK) (λK hK=>by exact hK) (zcl ..) (by simp) ?_
   rw[zco]
   exact h
  ·exact h.elim⟩)
def zr3  (zao:zck K mg)(zke:Dm K zao.C "__init__" "Power.__init__" zi0 zet):Fm P w K mg base 1 zao.C "__init__" zet (zel zao.C):=
 zke.mk' (zaA (k:=0) zke.F zrB (zrd zao.C) λcdv A outer s H E hr=>⟨_,(zae (zb9 zao.cl zao.n_one (dv 0) (dv 1)) (zaf (zb9 zao.cl zao.n_many (dv 0) (dv 2)))),λds S Q ex h=>by
  unfold zel at h
  split at h
  ·rename_i n x y
   obtain⟨T,rfl,rfl,h⟩:=h
   refine zb8 (v:=x) (S1:=T++[Ob.ins zao.C []]) (S2:=T++[Ob.ins zao.C []]) (n:=T.length) (fs:=[]) (λK hK=>by exact hK) (λK hK=>by exact hK) (zcl ..) (by simp) ?_
   rw[zco]
   refine zb8 (v:=y) (S1:=T++[Ob.ins zao.C [("one",x)]]) (S2:=T++[Ob.ins zao.C [("one",x)]]) (n:=T.length) (fs:=[("one",x)]) (λK hK=>by exact hK) (λK hK=>by exact hK) (zcl ..) (by simp) ?_
   rw[zco]
   exact h
  ·exact h.elim⟩)
def zpS  (zap:zcn K mg)(zjS:Dm K zap.C "__init__" "Number.__init__" zjB zej):Fm P w K mg base 1 zap.C "__init__" zej (zeC zap.C):=
 zjS.mk' (zaA (k:=0) zjS.F zoV (zr9 zap.C) λcdv A outer s H E hr=>⟨_,(zae (zb9 zap.cl zap.n_top (dv 0) (dv 1)) (zaf (zb9 zap.cl zap.n_bottom (dv 0) (dv 2)))),λds S Q ex h=>by
  unfold zeC at h
  split at h
  ·rename_i n x y
   obtain⟨T,rfl,rfl,h⟩:=h
   refine zb8 (v:=x) (S1:=T++[Ob.ins zap.C []]) (S2:=T++[Ob.ins zap.C []]) (n:=T.length) (fs:=[]) (λK hK=>by exact hK) (λK hK=>by exact hK) (zcl ..) (by simp) ?_
   rw[zco]
   refine zb8 (v:=y) (S1:=T++[Ob.ins zap.C [("top",x)]]) (S2:=T++[Ob.ins zap.C [("top",x)]]) (n:=T.length) (fs:=[("top",x)]) (λK hK=>by exact hK) (λK hK=>by exact hK) (zcl ..) (by simp) ?_
   rw[zco]
   exact h
  ·exact h.elim⟩)
def znA  (zar:zci K mg)(zjp:Dm K zar.C "__init__" "Unknown.__init__" zkc zdV):Fm P w K mg base 1 zar.C "__init__" zdV (zec zar.C):=
 zjp.mk' (zaA (k:=0) zjp.F zrj (znH zar.C) λcdv A outer s H E hr=>⟨_,(zaf (zb9 zar.cl zar.n_place (dv 0) (dv 1))),λds S Q ex h=>by
  unfold zec at h
  split at h
  ·rename_i n x
   obtain⟨T,rfl,rfl,h⟩:=h
   refine zb8 (v:=x) (S1:=T++[Ob.ins zar.C []]) (S2:=T++[Ob.ins zar.C []]) (n:=T.length) (fs:=[]) (λK hK=>by exact hK) (λK hK=>by exact hK) (zcl ..) (by simp) ?_
   rw[zco]
   exact h
  ·exact h.elim⟩)
def znG  (zai:zbO K mg)(zhW:Dm K zai.C "__init__" "Pair.__init__" zjt zdZ):Fm P w K mg base 1 zai.C "__init__" zdZ (zem zai.C):=
 zhW.mk' (zaA (k:=0) zhW.F zqD (zoQ zai.C) λcdv A outer s H E hr=>⟨_,(zae (zb9 zai.cl zai.n_one (dv 0) (dv 1)) (zaf (zb9 zai.cl zai.n_other (dv 0) (dv 2)))),λds S Q ex h=>by
  unfold zem at h
  split at h
  ·rename_i n x y
   obtain⟨T,rfl,rfl,h⟩:=h
   refine zb8 (v:=x) (S1:=T++[Ob.ins zai.C []]) (S2:=T++[Ob.ins zai.C []]) (n:=T.length) (fs:=[]) (λK hK=>by exact hK) (λK hK=>by exact hK) (zcl ..) (by simp) ?_
   rw[zco]
   refine zb8 (v:=y) (S1:=T++[Ob.ins zai.C [("one",x)]]) (S2:=T++[Ob.ins zai.C [("one",x)]]) (n:=T.length) (fs:=[("one",x)]) (λK hK=>by exact hK) (λK hK=>by exact hK) (zcl ..) (by simp) ?_
   rw[zco]
   exact h
  ·exact h.elim⟩)
def zn8  (zah:zbK K mg)(zii:Dm K zah.C "__init__" "Pair.__init__" ziN zeI):Fm P w K mg base 1 zah.C "__init__" zeI (zd2 zah.C):=
 zii.mk' (zaA (k:=0) zii.F znE (zoH zah.C) λcdv A outer s H E hr=>⟨_,(zae (zb9 zah.cl zah.n_one (dv 0) (dv 1)) (zaf (zb9 zah.cl zah.n_other (dv 0) (dv 2)))),λds S Q ex h=>by
  unfold zd2 at h
  split at h
  ·rename_i n x y
   obtain⟨T,rfl,rfl,h⟩:=h
   refine zb8 (v:=x) (S1:=T++[Ob.ins zah.C []]) (S2:=T++[Ob.ins zah.C []]) (n:=T.length) (fs:=[]) (λK hK=>by exact hK) (λK hK=>by exact hK) (zcl ..) (by simp) ?_
   rw[zco]
   refine zb8 (v:=y) (S1:=T++[Ob.ins zah.C [("one",x)]]) (S2:=T++[Ob.ins zah.C [("one",x)]]) (n:=T.length) (fs:=[("one",x)]) (λK hK=>by exact hK) (λK hK=>by exact hK) (zcl ..) (by simp) ?_
   rw[zco]
   exact h
  ·exact h.elim⟩)
def zqh  (zao:zck K mg)(zaj:zbN K mg)(zah:zbK K mg)(zai:zbO K mg)(zar:zci K mg)(zap:zcn K mg)(ziG:Df K mg "kind_of" zhz zfG)(zb0:Fm P w K mg base 1 zao.C "__init__" zet (zel zao.C))(zb5:Fm P w K mg base 1 zaj.C "__init__" zdP (zdX zaj.C))(zbT:Fm P w K mg base 1 zah.C "__init__" zeI (zd2 zah.C))(zbY:Fm P w K mg base 1 zai.C "__init__" zdZ (zem zai.C))(zbW:Fm P w K mg base 1 zar.C "__init__" zdV (zec zar.C))(zb4:Fm P w K mg base 1 zap.C "__init__" zej (zeC zap.C)):Fk P w K mg base 3 "kind_of" zfG (zfq zap.C zar.C zai.C zah.C zaj.C zao.C):=
 ziG.mk' (zaA (k:=2) ziG.F zrT (znM zap.C zar.C zai.C zah.C zaj.C zao.C) λcdv A outer s H E hr=>⟨_,(zae (zas (zan (zaI hr) (zad (dv 0) zab (λ_ _=>rfl)) za9 (zam _)) (zaf (zak (zbU ⟨zap.makes,zb4.m.at_,zb4.m.fn,zap.kp⟩ zb4.ok (hr.mono (by decide)) rfl zap.m zb4.b zbQ (zaa (zad (dv 0) zab (λ_ _=>rfl)) (zaa (zad (dv 0) zab (λ_ _=>rfl)) zac))))) zau) (zae (zas (zan (zaI hr) (zad (dv 0) zab (λ_ _=>rfl)) za9 (zam _)) (zaf (zak (zbU ⟨zar.makes,zbW.m.at_,zbW.m.fn,zar.kp⟩ zbW.ok (hr.mono (by decide)) rfl zar.m zbW.b zbQ (zaa (zad (dv 0) zab (λ_ _=>rfl)) zac)))) zau) (zae (zas (zan (zaI hr) (zad (dv 0) zab (λ_ _=>rfl)) za9 (zam _)) (zaf (zak (zbU ⟨zai.makes,zbY.m.at_,zbY.m.fn,zai.kp⟩ zbY.ok (hr.mono (by decide)) rfl zai.m zbY.b zbQ (zaa (zad (dv 0) zab (λ_ _=>rfl)) (zaa (zad (dv 0) zab (λ_ _=>rfl)) zac))))) zau) (zae (zas (zan (zaI hr) (zad (dv 0) zab (λ_ _=>rfl)) za9 (zam _)) (zaf (zak (zbU ⟨zah.makes,zbT.m.at_,zbT.m.fn,zah.kp⟩ zbT.ok (hr.mono (by decide)) rfl zah.m zbT.b zbQ (zaa (zad (dv 0) zab (λ_ _=>rfl)) (zaa (zad (dv 0) zab (λ_ _=>rfl)) zac))))) zau) (zae (zas (zan (zaI hr) (zad (dv 0) zab (λ_ _=>rfl)) za9 (zam _)) (zaf (zak (zbU ⟨zaj.makes,zb5.m.at_,zb5.m.fn,zaj.kp⟩ zb5.ok (hr.mono (by decide)) rfl zaj.m zb5.b zbQ (zaa (zad (dv 0) zab (λ_ _=>rfl)) (zaa (zad (dv 0) zab (λ_ _=>rfl)) zac))))) zau) (zaf (zak (zbU ⟨zao.makes,zb0.m.at_,zb0.m.fn,zao.kp⟩ zb0.ok (hr.mono (by decide)) rfl zao.m zb0.b zbQ (zaa (zad (dv 0) zab (λ_ _=>rfl)) (zaa (zad (dv 0) zab (λ_ _=>rfl)) zac)))))))))),λds S Q ex h=>by
  unfold zfq at h
  split at h
  ·obtain⟨v,rfl,h⟩:=h
   cases v <;> exact⟨S,rfl,rfl,rfl,h⟩
  ·exact h.elim⟩)
def zoS  (zaj:zbN K mg)(zah:zbK K mg)(zai:zbO K mg)(zao:zck K mg)(zar:zci K mg)(zap:zcn K mg)(ziq:Df K mg "_law_made" zj9 zgk)(zb5:Fm P w K mg base 1 zaj.C "__init__" zdP (zdX zaj.C))(zbT:Fm P w K mg base 1 zah.C "__init__" zeI (zd2 zah.C))(zbY:Fm P w K mg base 1 zai.C "__init__" zdZ (zem zai.C))(zb0:Fm P w K mg base 1 zao.C "__init__" zet (zel zao.C))(zbW:Fm P w K mg base 1 zar.C "__init__" zdV (zec zar.C))(zb4:Fm P w K mg base 1 zap.C "__init__" zej (zeC zap.C))(zls:Fk P w K mg base 3 "kind_of" zfG (zfq zap.C zar.C zai.C zah.C zaj.C zao.C)):Fk P w K mg base 4 "_law_made" zgk (zgp zap.C zar.C zai.C zah.C zaj.C zao.C):=
 ziq.mk' (zaA (k:=3) ziq.F znD (zsh zap.C zar.C zai.C zah.C zaj.C zao.C) λcdv A outer s H E hr=>⟨_,(zae (zas (zdh (zcP (dv 1))) (zaf (zak (zaq zls hr (zaa (dv 0) zac)))) zau) (zae (zas (zan (zaI hr) (zad (dv 0) zab (λ_ _=>rfl)) za9 (zam _)) (zaf (zak (zbU ⟨zap.makes,zb4.m.at_,zb4.m.fn,zap.kp⟩ zb4.ok (hr.mono (by decide)) rfl zap.m zb4.b zbQ (zaa (zad (dv 0) zab (λ_ _=>rfl)) (zaa (zad (dv 0) zab (λ_ _=>rfl)) zac))))) zau) (zae (zas (zan (zaI hr) (zad (dv 0) zab (λ_ _=>rfl)) za9 (zam _)) (zaf (zak (zbU ⟨zar.makes,zbW.m.at_,zbW.m.fn,zar.kp⟩ zbW.ok (hr.mono (by decide)) rfl zar.m zbW.b zbQ (zaa (zad (dv 0) zab (λ_ _=>rfl)) zac)))) zau) (zae (zas (zan (zaI hr) (zad (dv 0) zab (λ_ _=>rfl)) za9 (zam _)) (zaf (zak (zbU ⟨zao.makes,zb0.m.at_,zb0.m.fn,zao.kp⟩ zb0.ok (hr.mono (by decide)) rfl zao.m zb0.b zbQ (zaa (zad (dv 0) zab (λ_ _=>rfl)) (zaa (zad (dv 0) zab (λ_ _=>rfl)) zac))))) zau) (zae (zas (zan (zaI hr) (zad (dv 0) zab (λ_ _=>rfl)) za9 (zam _)) (zaf (zak (zbU ⟨zai.makes,zbY.m.at_,zbY.m.fn,zai.kp⟩ zbY.ok (hr.mono (by decide)) rfl zai.m zbY.b zbQ (zaa (zad (dv 0) zab (λ_ _=>rfl)) (zaa (zad (dv 0) zab (λ_ _=>rfl)) zac))))) zau) (zae (zas (zan (zaI hr) (zad (dv 0) zab (λ_ _=>rfl)) za9 (zam _)) (zaf (zak (zbU ⟨zah.makes,zbT.m.at_,zbT.m.fn,zah.kp⟩ zbT.ok (hr.mono (by decide)) rfl zah.m zbT.b zbQ (zaa (zad (dv 0) zab (λ_ _=>rfl)) (zaa (zad (dv 0) zab (λ_ _=>rfl)) zac))))) zau) (zaf (zak (zbU ⟨zaj.makes,zb5.m.at_,zb5.m.fn,zaj.kp⟩ zb5.ok (hr.mono (by decide)) rfl zaj.m zb5.b zbQ (zaa (zad (dv 0) zab (λ_ _=>rfl)) (zaa (zad (dv 0) zab (λ_ _=>rfl)) zac))))))))))),λds S Q ex h=>by
  unfold zgp at h
  split at h
  ·rename_i d b
   obtain⟨v,rfl,h⟩:=h
   cases b
   ·exact⟨v,rfl,h⟩
   ·cases v <;> exact⟨S,rfl,rfl,rfl,h⟩
  ·exact h.elim⟩)
def zoJ  (zg4:Df K mg "_law_whole" zgx zeH)(zbk:mg "isinstance"=none)(zcZ:mg "bool"=none)(zc1:mg "int"=none)(zdY:Kit K "bool")(zek:Kit K "int"):Fk P w K mg base 1 "_law_whole" zeH zdT:=
 zg4.mk' (zaA (k:=0) zg4.F zsc (zra) λcdv A outer s H E hr=>⟨_,(zaf (zak (zkI (zh3 zek rfl zbk rfl zc1 Boot.«int» (dv 0)) (zmi (zsq (zh3 zdY rfl zbk rfl zcZ Boot.«bool» (dv 0))))))),λds S Q ex h=>by
  unfold zdT at h
  split at h
  ·exact h
  ·exact h.elim⟩)
def zop  (zj2:Df K mg "_law_span_is" ziK zfQ)(zds:Fk P w K mg base 1 "_law_whole" zeH zdT)(za2:mg "len"=none)(zbk:mg "isinstance"=none)(zcf:mg "tuple"=none)(zcL:Kit K "tuple"):Fk P w K mg base 2 "_law_span_is" zfQ zfZ:=
 zj2.mk' (zaA (k:=1) zj2.F zs1 (zn0) λcdv A outer s H E hr=>⟨_,(zae (zas (PDW.pt (zca (zdh (zcP (zh3 zcL rfl zbk rfl zcf Boot.«tuple» (dv 0)))) (zcM (zan (zdg hr) (zaH zcr rfl za2 Boot.«len» (zaa (dv 0) zac)) zab (zam _))))) (zaf (zak zdk)) zau) (zaf (zak (zkI (zaq zds hr (zaa (zad (dv 0) zab (λ_ _=>rfl)) zac)) (zkI (zaq zds hr (zaa (zad (dv 0) zab (λ_ _=>rfl)) zac)) (zmi (zfE zcq (zad (dv 0) zab (λ_ _=>rfl)) (zad (dv 0) zab (λ_ _=>rfl)) (zam _)))))))),λds S Q ex h=>by
  unfold zfZ at h
  split at h
  ·obtain⟨hab,h⟩:=h
   exact qt (Q:=Q) (decide_eq_true hab) h
  ·exact h.elim⟩)
def zsy  (zhp:Df K mg "_law_parts_are" zi6 zeY)(zlP:Fk P w K mg base 2 "_law_span_is" zfQ zfZ)(zds:Fk P w K mg base 1 "_law_whole" zeH zdT)(zbh:mg "range"=none)(za2:mg "len"=none)(zbk:mg "isinstance"=none)(zcf:mg "tuple"=none)(zbH:mg "list"=none)(zcL:Kit K "tuple"):Fk P w K mg base 3 "_law_parts_are" zeY zf3:=
 zhp.mk' (zaA (k:=2) zhp.F zkH (zqR) λcdv A outer s H E hr=>⟨_,(zae (zas (zan zbE (dv 1) zaF (zam _)) (zaf (zak (zfE zbE (dv 0) zaF (zam _)))) zau) (zae (zas (PDW.pt (zca (zdh (zcP (zoN (zq7 _) rfl zbk rfl zbH Boot.«list» (dv 0)))) (zcM (zan (zdg hr) (zaH (zbj zcr) rfl za2 Boot.«len» (zaa (dv 0) zac)) (zaH (zbj zcr) rfl za2 Boot.«len» (zaa (dv 1) zac)) (zam _))))) (zaf (zak zdk)) zau) (zae (zhL (i:=2) PassesOwn.never rfl zkH.nd rfl (Or.inl rfl) rfl zbh (zaa (zaH (zbj zcr) rfl za2 Boot.«len» (zaa (dv 1) zac)) zac) (zae (zal (i:=3) zkH.nd rfl (Or.inl rfl) (za1 (dv 0) (dv 2) (λ_ _=>rfl))) (zae (zas (PDW.pt (zca (zdh (zcP (zh3 zcL rfl zbk rfl zcf Boot.«tuple» (dv 3)))) (zcM (zan (zdg hr) (zaH (zbj zcr) rfl za2 Boot.«len» (zaa (dv 3) zac)) zab (zam _))))) (zaf (zak zdk)) zau) (zaf (zas (PDW.pt (zca (zdh (zcP (zaq zds hr (zaa (zad (dv 3) zab (λ_ _=>rfl)) zac)))) (zca (zdh (zcP (zaq zlP hr (zaa (zad (dv 3) zab (λ_ _=>rfl)) zac)))) (zcM (zan (zdg hr) (dv 3) (za1 (dv 1) (dv 2) (λ_ _=>rfl)) (zam _)))))) (zaf (zak zdk)) zau))))) (zaf (zak zdk))))),λds S Q ex h=>by
  unfold zf3 at h
  split at h
  ·exact h
  ·rename_i a b
   obtain⟨l,h1,h2,hq,hl,h⟩:=h
   refine zqH (n:=a) (λK hK=>by exact hK) h1 ?_
   refine zb3 ?_
   refine zdD h1 ?_
   dsimp only[dNil]
   refine zdD h2 ?_
   refine ifN (λc=>absurd rfl c) (λ_=>?_)
   refine zdD h2 ?_
   rw[Vab]
   refine⟨⟨by omega,by omega⟩,λk dl' S'=>S'=S∧∃u2 u3:Option D,dl'=[some (.ref a),some (.ref b),u2,u3],⟨rfl,_,_,rfl⟩,?_⟩
   rintro k dl' S' ⟨rfl,u2,u3,rfl⟩
   refine zfc (λkc=>?_) (λ_=>h)
   have kc':k<l.length:=by
    have z:k<((l.length:Nat):Int).toNat:=kc
    omega
   have ek:=VaB kc'
   refine zaJ (o:=.lst (l.map ptD)) h1 (zl9 ek) ?_
   refine znJ (xs:=[.int l[k].1,.tup [.int l[k].2.1,.int l[k].2.2]]) ?_
   refine⟨hq _ (List.getElem_mem kc'),?_⟩
   refine zaJ (o:=.lst (l.map ptD)) h2 (zl9 ek) ?_
   refine ifF (by simp) ?_
   exact⟨rfl,_,_,rfl⟩
  ·exact h.elim⟩)
def znB  (zap:zcn K mg)(zar:zci K mg)(zai:zbO K mg)(zah:zbK K mg)(zaj:zbN K mg)(zao:zck K mg)(zgz:Dm K zap.C "back" "Number.back" zgN zgu):Fm P w K mg base 1 zap.C "back" zgu (zeK zap.C zar.C zai.C zah.C zaj.C zao.C):=
 zgz.mk' (zaA (k:=0) zgz.F zpK (zrV zap.C zar.C zai.C zah.C zaj.C zao.C) λcdv A outer s H E hr=>⟨_,(zaf (zak (zbe zac))),λds S Q ex h=>by
  unfold zeK at h
  split at h
  ·rename_i n w z0 z1 g
   obtain⟨x,y,vs,q,hn,hw,ok,hs,⟨hz,sz0,sz1⟩,hg,h1,h2⟩:=h
   exact h2 [] rfl
  ·exact h.elim⟩)
def zoC  (zap:zcn K mg)(zar:zci K mg)(zai:zbO K mg)(zah:zbK K mg)(zaj:zbN K mg)(zao:zck K mg)(zh5:Dm K zar.C "back" "Unknown.back" zjY zfF):Fm P w K mg base 1 zar.C "back" zfF (zd5 zap.C zar.C zai.C zah.C zaj.C zao.C):=
 zh5.mk' (zaA (k:=0) zh5.F zrG (zsj zap.C zar.C zai.C zah.C zaj.C zao.C) λcdv A outer s H E hr=>⟨_,(zaf (zak (zbe zac))),λds S Q ex h=>by
  unfold zd5 at h
  split at h
  ·rename_i n w z0 z1 g
   obtain⟨k,vs,q,hn,hw,ok,hs,⟨hz,sz0,sz1⟩,hg,h1,h2⟩:=h
   exact h2 [] rfl
  ·exact h.elim⟩)
def zqa  (zgL:Df K mg "common" zg5 zcW)(zaX:mg "min"=none)(zaG:mg "max"=none):Fk P w K mg base 1 "common" zcW zc3:=
 zgL.mk' (zaA (k:=0) zgL.F zkw (zn6) λcdv A outer s H E hr=>⟨_,(zae (zal (i:=2) zkw.nd rfl (Or.inl rfl) (zaH (zbw rfl) rfl zaG Boot.«max» (zaa (zad (dv 0) zab (λ_ _=>rfl)) (zaa (zad (dv 1) zab (λ_ _=>rfl)) zac)))) (zae (zal (i:=3) zkw.nd rfl (Or.inl rfl) (zaH (zcD rfl) rfl zaX Boot.«min» (zaa (zad (dv 0) zab (λ_ _=>rfl)) (zaa (zad (dv 1) zab (λ_ _=>rfl)) zac)))) (zae (zas (zan zbS (dv 2) (dv 3) (zam _)) (zaf (zak zaF)) zau) (zaf (zak (zaB (zaa (dv 2) (zaa (dv 3) zac)))))))),λds S Q ex h=>by
  unfold zc3 at h
  split at h
  ·rename_i a b c d
   obtain⟨h1,h2⟩:=h
   unfold zaW at h1 h2
   refine ifD (λe=>?_) (λe=>?_)
   ·exact h1 (if_pos e)
   ·exact h2 _ (if_neg e)
  ·exact h.elim⟩)
def zsX  (ziE:Df K mg "take_spans" zj7 zdo):Fk P w K mg base 1 "take_spans" zdo zdw:=
 ziE.mk' (zaA (k:=0) ziE.F zqs (zqe) λcdv A outer s H E hr=>⟨_,(zaf (zak (zaB (zaa (zag zbr (zad (dv 0) zab (λ_ _=>rfl)) (zad (dv 1) zab (λ_ _=>rfl))) (zaa (zag zbr (zad (dv 0) zab (λ_ _=>rfl)) (zad (dv 1) zab (λ_ _=>rfl))) zac))))),λds S Q ex h=>by
  unfold zdw at h
  split at h
  ·exact h
  ·exact h.elim⟩)
def zpH  (zai:zbO K mg)(zgQ:Dm K zai.C "first_left" "Plus.first_left" zje zgw)(zbV:Fk P w K mg base 1 "common" zcW zc3)(zcF:Fk P w K mg base 1 "take_spans" zdo zdw):Fm P w K mg base 2 zai.C "first_left" zgw zf4:=
 zgQ.mk' (zaA (k:=1) zgQ.F zpI (zsz) λcdv A outer s H E hr=>⟨_,(zaf (zak (zaq zbV hr (zaa (dv 2) (zaa (zaq zcF hr (zaa (dv 1) (zaa (dv 3) zac))) zac))))),λds S Q ex h=>by
  unfold zf4 at h
  split at h
  ·exact h
  ·exact h.elim⟩)
def zo5  (zai:zbO K mg)(ziD:Dm K zai.C "second_left" "Plus.second_left" ziR zfx)(zbV:Fk P w K mg base 1 "common" zcW zc3)(zcF:Fk P w K mg base 1 "take_spans" zdo zdw):Fm P w K mg base 2 zai.C "second_left" zfx zfL:=
 ziD.mk' (zaA (k:=1) ziD.F zqW (zpu) λcdv A outer s H E hr=>⟨_,(zaf (zak (zaq zbV hr (zaa (dv 3) (zaa (zaq zcF hr (zaa (dv 1) (zaa (dv 2) zac))) zac))))),λds S Q ex h=>by
  unfold zfL at h
  split at h
  ·exact h
  ·exact h.elim⟩)
def zn7  (zai:zbO K mg)(zap:zcn K mg)(zar:zci K mg)(zah:zbK K mg)(zaj:zbN K mg)(zao:zck K mg)(zh1:Dm K zai.C "back" "Pair.back" zkg zfu)(zfv:Fm P w K mg base 2 zai.C "second_left" zfx zfL)(zf2:Fm P w K mg base 2 zai.C "first_left" zgw zf4):Fm P w K mg base 3 zai.C "back" zfu (zd3 zap.C zar.C zai.C zah.C zaj.C zao.C):=
 zh1.mk' (zaA (k:=2) zh1.F zi4 (zrN zap.C zar.C zai.C zah.C zaj.C zao.C) λcdv A outer s H E hr=>⟨_,(zae (zal (i:=4) zi4.nd rfl (Or.inl rfl) (zer (C:=zai.C) (dv 0) zai.cl zf2.m zf2.ok (hr.mono (by decide)) zf2.b zcw (zaa (dv 2) (zaa (za1 (dv 1) (za6 zai.cl zai.n_one (dv 0)) (λ_ _=>rfl)) (zaa (za1 (dv 1) (za6 zai.cl zai.n_other (dv 0)) (λ_ _=>rfl)) (zaa (dv 3) zac)))))) (zae (zas (zan zbE (dv 4) zaF (zam _)) (zaf (zak zaF)) zau) (zae (zal (i:=5) zi4.nd rfl (Or.inl rfl) (zcY (zan (zaI hr) (za6 zai.cl zai.n_one (dv 0)) (za6 zai.cl zai.n_other (dv 0)) (zam _)) (dv 4) (za1 (dv 1) (za6 zai.cl zai.n_other (dv 0)) (λ_ _=>rfl)))) (zae (zal (i:=5) zi4.nd rfl (Or.inl rfl) (zer (C:=zai.C) (dv 0) zai.cl zfv.m zfv.ok (hr.mono (by decide)) zfv.b zcw (zaa (dv 2) (zaa (dv 4) (zaa (dv 5) (zaa (dv 3) zac)))))) (zae (zas (zan zbE (dv 5) zaF (zam _)) (zaf (zak zaF)) zau) (zaf (zak (zbe (zaa (zaB (zaa (za6 zai.cl zai.n_one (dv 0)) (zaa (dv 4) zac))) (zaa (zaB (zaa (za6 zai.cl zai.n_other (dv 0)) (zaa (dv 5) zac))) zac)))))))))),λds S Q ex h=>by
  unfold zd3 at h
  split at h
  ·rename_i n w z0 z1 g
   obtain⟨i,j,vs,q,hn,hw,ok,hs,⟨hz,sz0,sz1⟩,hg,h1,h2⟩:=h
   refine zcE (n:=n) (fs:=[("one",.int i),("other",.int j)]) (λK hK=>by exact hK) hn rfl ?_
   refine zaV (n:=n) (λK hK=>by exact hK) hn rfl ?_
   refine zaJ (o:=.lst (vs.map frD)) hw (zaY ok.1) ?_
   refine zaV (n:=n) (λK hK=>by exact hK) hn rfl ?_
   refine zaJ (o:=.lst (vs.map frD)) hw (zaY ok.2) ?_
   refine⟨λe=>?_,λx' e=>?_⟩
   ·have e':zaW (gt vs i) (z0-(gt vs j).2,z1-(gt vs j).1)=none:=e
    refine h1 ?_
    unfold Nd.bk bk2
    dsimp only
    rw[e']
   ·have e':zaW (gt vs i) (z0-(gt vs j).2,z1-(gt vs j).1)=some x':=e
    refine zaV (n:=n) (λK hK=>by exact hK) hn rfl ?_
    refine zaV (n:=n) (λK hK=>by exact hK) hn rfl ?_
    refine ifD (λc=>?_) (λc=>?_)
    ·skip
     refine zcE (n:=n) (fs:=[("one",.int i),("other",.int j)]) (λK hK=>by exact hK) hn rfl ?_
     refine⟨λe2=>?_,λy' e2=>?_⟩
     ·refine h1 ?_
      unfold Nd.bk bk2
      dsimp only
      rw[e']
      dsimp only
      rw[if_pos c,show zaW x' (z0-x'.2,z1-x'.1)=none from e2]
     ·refine zaV (n:=n) (λK hK=>by exact hK) hn rfl ?_
      refine zaV (n:=n) (λK hK=>by exact hK) hn rfl ?_
      refine h2 [(i,x'),(j,y')] ?_
      unfold Nd.bk bk2
      dsimp only
      rw[e']
      dsimp only
      rw[if_pos c,show zaW x' (z0-x'.2,z1-x'.1)=some y' from e2]
    ·refine zaV (n:=n) (λK hK=>by exact hK) hn rfl ?_
     refine zaJ (o:=.lst (vs.map frD)) hw (zaY ok.2) ?_
     refine zcE (n:=n) (fs:=[("one",.int i),("other",.int j)]) (λK hK=>by exact hK) hn rfl ?_
     refine⟨λe2=>?_,λy' e2=>?_⟩
     ·refine h1 ?_
      unfold Nd.bk bk2
      dsimp only
      rw[e']
      dsimp only
      rw[if_neg c,show zaW (gt vs j) (z0-x'.2,z1-x'.1)=none from e2]
     ·refine zaV (n:=n) (λK hK=>by exact hK) hn rfl ?_
      refine zaV (n:=n) (λK hK=>by exact hK) hn rfl ?_
      refine h2 [(i,x'),(j,y')] ?_
      unfold Nd.bk bk2
      dsimp only
      rw[e']
      dsimp only
      rw[if_neg c,show zaW (gt vs j) (z0-x'.2,z1-x'.1)=some y' from e2]
  ·exact h.elim⟩)
def zoL  (zh7:Df K mg "add_spans" zil ze5):Fk P w K mg base 1 "add_spans" ze5 ze1:=
 zh7.mk' (zaA (k:=0) zh7.F zoc (zoE) λcdv A outer s H E hr=>⟨_,(zaf (zak (zaB (zaa (zag za5 (zad (dv 0) zab (λ_ _=>rfl)) (zad (dv 1) zab (λ_ _=>rfl))) (zaa (zag za5 (zad (dv 0) zab (λ_ _=>rfl)) (zad (dv 1) zab (λ_ _=>rfl))) zac))))),λds S Q ex h=>by
  unfold ze1 at h
  split at h
  ·exact h
  ·exact h.elim⟩)
def zoI  (zah:zbK K mg)(zg2:Dm K zah.C "first_left" "Minus.first_left" zir zfH)(zbV:Fk P w K mg base 1 "common" zcW zc3)(zlb:Fk P w K mg base 1 "add_spans" ze5 ze1):Fm P w K mg base 2 zah.C "first_left" zfH ze6:=
 zg2.mk' (zaA (k:=1) zg2.F zsg (zpk) λcdv A outer s H E hr=>⟨_,(zaf (zak (zaq zbV hr (zaa (dv 2) (zaa (zaq zlb hr (zaa (dv 1) (zaa (dv 3) zac))) zac))))),λds S Q ex h=>by
  unfold ze6 at h
  split at h
  ·exact h
  ·exact h.elim⟩)
def zsb  (zah:zbK K mg)(zjC:Dm K zah.C "second_left" "Minus.second_left" zgy zeU)(zbV:Fk P w K mg base 1 "common" zcW zc3)(zcF:Fk P w K mg base 1 "take_spans" zdo zdw):Fm P w K mg base 2 zah.C "second_left" zeU zfe:=
 zjC.mk' (zaA (k:=1) zjC.F zoZ (zpX) λcdv A outer s H E hr=>⟨_,(zaf (zak (zaq zbV hr (zaa (dv 3) (zaa (zaq zcF hr (zaa (dv 2) (zaa (dv 1) zac))) zac))))),λds S Q ex h=>by
  unfold zfe at h
  split at h
  ·exact h
  ·exact h.elim⟩)
def zqN  (zah:zbK K mg)(zap:zcn K mg)(zar:zci K mg)(zai:zbO K mg)(zaj:zbN K mg)(zao:zck K mg)(ziz:Dm K zah.C "back" "Pair.back" zi3 zfm)(zgg:Fm P w K mg base 2 zah.C "second_left" zeU zfe)(zfI:Fm P w K mg base 2 zah.C "first_left" zfH ze6):Fm P w K mg base 3 zah.C "back" zfm (zdM zap.C zar.C zai.C zah.C zaj.C zao.C):=
 ziz.mk' (zaA (k:=2) ziz.F zjH (znV zap.C zar.C zai.C zah.C zaj.C zao.C) λcdv A outer s H E hr=>⟨_,(zae (zal (i:=4) zjH.nd rfl (Or.inl rfl) (zer (C:=zah.C) (dv 0) zah.cl zfI.m zfI.ok (hr.mono (by decide)) zfI.b zcw (zaa (dv 2) (zaa (za1 (dv 1) (za6 zah.cl zah.n_one (dv 0)) (λ_ _=>rfl)) (zaa (za1 (dv 1) (za6 zah.cl zah.n_other (dv 0)) (λ_ _=>rfl)) (zaa (dv 3) zac)))))) (zae (zas (zan zbE (dv 4) zaF (zam _)) (zaf (zak zaF)) zau) (zae (zal (i:=5) zjH.nd rfl (Or.inl rfl) (zcY (zan (zaI hr) (za6 zah.cl zah.n_one (dv 0)) (za6 zah.cl zah.n_other (dv 0)) (zam _)) (dv 4) (za1 (dv 1) (za6 zah.cl zah.n_other (dv 0)) (λ_ _=>rfl)))) (zae (zal (i:=5) zjH.nd rfl (Or.inl rfl) (zer (C:=zah.C) (dv 0) zah.cl zgg.m zgg.ok (hr.mono (by decide)) zgg.b zcw (zaa (dv 2) (zaa (dv 4) (zaa (dv 5) (zaa (dv 3) zac)))))) (zae (zas (zan zbE (dv 5) zaF (zam _)) (zaf (zak zaF)) zau) (zaf (zak (zbe (zaa (zaB (zaa (za6 zah.cl zah.n_one (dv 0)) (zaa (dv 4) zac))) (zaa (zaB (zaa (za6 zah.cl zah.n_other (dv 0)) (zaa (dv 5) zac))) zac)))))))))),λds S Q ex h=>by
  unfold zdM at h
  split at h
  ·rename_i n w z0 z1 g
   obtain⟨i,j,vs,q,hn,hw,ok,hs,⟨hz,sz0,sz1⟩,hg,h1,h2⟩:=h
   refine zcE (n:=n) (fs:=[("one",.int i),("other",.int j)]) (λK hK=>by exact hK) hn rfl ?_
   refine zaV (n:=n) (λK hK=>by exact hK) hn rfl ?_
   refine zaJ (o:=.lst (vs.map frD)) hw (zaY ok.1) ?_
   refine zaV (n:=n) (λK hK=>by exact hK) hn rfl ?_
   refine zaJ (o:=.lst (vs.map frD)) hw (zaY ok.2) ?_
   refine⟨λe=>?_,λx' e=>?_⟩
   ·have e':zaW (gt vs i) (z0+(gt vs j).1,z1+(gt vs j).2)=none:=e
    refine h1 ?_
    unfold Nd.bk bk2
    dsimp only
    rw[e']
   ·have e':zaW (gt vs i) (z0+(gt vs j).1,z1+(gt vs j).2)=some x':=e
    refine zaV (n:=n) (λK hK=>by exact hK) hn rfl ?_
    refine zaV (n:=n) (λK hK=>by exact hK) hn rfl ?_
    refine ifD (λc=>?_) (λc=>?_)
    ·skip
     refine zcE (n:=n) (fs:=[("one",.int i),("other",.int j)]) (λK hK=>by exact hK) hn rfl ?_
     refine⟨λe2=>?_,λy' e2=>?_⟩
     ·refine h1 ?_
      unfold Nd.bk bk2
      dsimp only
      rw[e']
      dsimp only
      rw[if_pos c,show zaW x' (x'.1-z1,x'.2-z0)=none from e2]
     ·refine zaV (n:=n) (λK hK=>by exact hK) hn rfl ?_
      refine zaV (n:=n) (λK hK=>by exact hK) hn rfl ?_
      refine h2 [(i,x'),(j,y')] ?_
      unfold Nd.bk bk2
      dsimp only
      rw[e']
      dsimp only
      rw[if_pos c,show zaW x' (x'.1-z1,x'.2-z0)=some y' from e2]
    ·refine zaV (n:=n) (λK hK=>by exact hK) hn rfl ?_
     refine zaJ (o:=.lst (vs.map frD)) hw (zaY ok.2) ?_
     refine zcE (n:=n) (fs:=[("one",.int i),("other",.int j)]) (λK hK=>by exact hK) hn rfl ?_
     refine⟨λe2=>?_,λy' e2=>?_⟩
     ·refine h1 ?_
      unfold Nd.bk bk2
      dsimp only
      rw[e']
      dsimp only
      rw[if_neg c,show zaW (gt vs j) (x'.1-z1,x'.2-z0)=none from e2]
     ·refine zaV (n:=n) (λK hK=>by exact hK) hn rfl ?_
      refine zaV (n:=n) (λK hK=>by exact hK) hn rfl ?_
      refine h2 [(i,x'),(j,y')] ?_
      unfold Nd.bk bk2
      dsimp only
      rw[e']
      dsimp only
      rw[if_neg c,show zaW (gt vs j) (x'.1-z1,x'.2-z0)=some y' from e2]
  ·exact h.elim⟩)
def zrn  (zkl:Df K mg "holds_nought" zj3 zge):Fk P w K mg base 1 "holds_nought" zge zf7:=
 zkl.mk' (zaA (k:=0) zkl.F zs3 (zqq) λcdv A outer s H E hr=>⟨_,(zaf (zak (zpx zcq zcq (zad (dv 0) zab (λ_ _=>rfl)) zab (zad (dv 0) zab (λ_ _=>rfl))))),λds S Q ex h=>by
  unfold zf7 at h
  split at h
  ·exact and2 h
  ·exact h.elim⟩)
def znP  (zin:Df K mg "part_between" zki zeL)(zaX:mg "min"=none)(zaG:mg "max"=none):Fk P w K mg base 1 "part_between" zeL zdL:=
 zin.mk' (zaA (k:=0) zin.F zpl (zqY) λcdv A outer s H E hr=>⟨_,(zae (zas (PDW.pt (zca (zan zbS (zad (dv 1) zab (λ_ _=>rfl)) (zad (dv 0) zab (λ_ _=>rfl)) (zam _)) (zcM (zan zbp (zad (dv 2) zab (λ_ _=>rfl)) (zad (dv 0) zab (λ_ _=>rfl)) (zam _))))) (zaf (zak zaF)) zau) (zaf (zak (zaB (zaa (zaH (zbw rfl) rfl zaG Boot.«max» (zaa (zad (dv 1) zab (λ_ _=>rfl)) (zaa (zad (dv 0) zab (λ_ _=>rfl)) zac))) (zaa (zaH (zcD rfl) rfl zaX Boot.«min» (zaa (zad (dv 2) zab (λ_ _=>rfl)) (zaa (zad (dv 0) zab (λ_ _=>rfl)) zac))) zac)))))),λds S Q ex h=>by
  unfold zdL at h
  split at h
  ·rename_i x0 x1 l0 l1 k0 k1
   obtain⟨h1,h2⟩:=h
   unfold ptB at h1 h2
   refine ifD (λc=>h1 (if_pos c)) (λc1=>ifD (λc=>h1 (by rw[if_neg c1,if_pos c])) (λc2=>?_))
   have z:=h2 (if x0 > l0 then x0 else l0,if x1<k1 then x1 else k1) (by rw[if_neg c1,if_neg c2])
   exact z
  ·exact h.elim⟩)
def zrM  (zjn:Df K mg "rounded_up" zgY zfX):Fk P w K mg base 1 "rounded_up" zfX zeZ:=
 zjn.mk' (zaA (k:=0) zjn.F zsO (zpf) λcdv A outer s H E hr=>⟨_,(zaf (zak (zaT zaS (zag zby (zaT zaS (dv 0)) (dv 1))))),λds S Q ex h=>by
  unfold zeZ at h
  split at h
  ·exact h
  ·exact h.elim⟩)
def zoF  (zjZ:Df K mg "quotient" zjN zgn)(zlx:Fk P w K mg base 1 "rounded_up" zfX zeZ):Fk P w K mg base 2 "quotient" zgn zf1:=
 zjZ.mk' (zaA (k:=1) zjZ.F zoa (zro) λcdv A outer s H E hr=>⟨_,(zaf (zak (zaB (zaa (zag zby (dv 0) (dv 1)) (zaa (zaq zlx hr (zaa (dv 0) (zaa (dv 1) zac))) zac))))),λds S Q ex h=>by
  unfold zf1 at h
  split at h
  ·obtain⟨hb,h⟩:=h
   exact⟨hb,hb,h⟩
  ·exact h.elim⟩)
def zsN  (ziA:Df K mg "back_by_side" zid zeV)(zc8:Fk P w K mg base 1 "part_between" zeL zdL)(zkd:Fk P w K mg base 2 "quotient" zgn zf1):Fk P w K mg base 3 "back_by_side" zeV zfO:=
 ziA.mk' (zaA (k:=2) ziA.F zfD (zor) λcdv A outer s H E hr=>⟨_,(zae (zal (i:=3) zfD.nd rfl (Or.inl rfl) (zcY (zan zbS (zad (dv 0) zab (λ_ _=>rfl)) zab (zam _)) (zad (dv 2) zab (λ_ _=>rfl)) (zad (dv 2) zab (λ_ _=>rfl)))) (zae (zal (i:=4) zfD.nd rfl (Or.inl rfl) (zcY (zan zbp (zad (dv 0) zab (λ_ _=>rfl)) zab (zam _)) (zad (dv 2) zab (λ_ _=>rfl)) (zad (dv 2) zab (λ_ _=>rfl)))) (zae (zal (i:=5) zfD.nd rfl (Or.inl rfl) (zcY (zan (zaI hr) (dv 3) zab (zam _)) (zaB (zaa (zad (dv 1) zab (λ_ _=>rfl)) (zaa (zad (dv 1) zab (λ_ _=>rfl)) zac))) (zaq zkd hr (zaa (zad (dv 0) zab (λ_ _=>rfl)) (zaa (dv 3) zac))))) (zae (zal (i:=6) zfD.nd rfl (Or.inl rfl) (zcY (zan (zaI hr) (dv 4) zab (zam _)) (zaB (zaa (zad (dv 1) zab (λ_ _=>rfl)) (zaa (zad (dv 1) zab (λ_ _=>rfl)) zac))) (zaq zkd hr (zaa (zad (dv 0) zab (λ_ _=>rfl)) (zaa (dv 4) zac))))) (zaf (zak (zaq zc8 hr (zaa (dv 1) (zaa (dv 5) (zaa (dv 6) zac)))))))))),λds S Q ex h=>by
  unfold zfO at h
  split at h
  ·rename_i lo hi x0 x1 c d
   obtain⟨⟨h0,hd,zc,zd⟩,h⟩:=h
   unfold sdS loE hiE zaO zaL at h
   refine ifD (λe1=>?_) (λe1=>?_)
   all_goals first | rw[if_pos e1] at h | rw[if_neg e1] at h
   all_goals refine ifD (λe2=>?_) (λe2=>?_)
   all_goals first | rw[if_pos e2] at h | rw[if_neg e2] at h
   all_goals refine ifD (λe3=>?_) (λe3=>?_)
   all_goals try refine⟨⟨by omega,by first | exact zd.log (by omega) | exact zc.log (by omega)⟩,?_⟩
   all_goals refine ifD (λe4=>?_) (λe4=>?_)
   all_goals try refine⟨⟨by omega,by first | exact zd.log (by omega) | exact zc.log (by omega)⟩,?_⟩
   all_goals
    first | rw[if_pos e3] at h | rw[if_neg e3] at h
    try first | rw[if_pos e4] at h | rw[if_neg e4] at h
    exact h
  ·exact h.elim⟩)
def zrc  (zix:Df K mg "hull" ziu ze3)(zaG:mg "max"=none)(zaX:mg "min"=none):Fk P w K mg base 1 "hull" ze3 ze4:=
 zix.mk' (zaA (k:=0) zix.F zpQ (znU) λcdv A outer s H E hr=>⟨_,(zaf (zak (zaB (zaa (zaH (zcD rfl) rfl zaX Boot.«min» (zaa (zad (dv 0) zab (λ_ _=>rfl)) (zaa (zad (dv 1) zab (λ_ _=>rfl)) zac))) (zaa (zaH (zbw rfl) rfl zaG Boot.«max» (zaa (zad (dv 0) zab (λ_ _=>rfl)) (zaa (zad (dv 1) zab (λ_ _=>rfl)) zac))) zac))))),λds S Q ex h=>by
  unfold ze4 at h
  split at h
  ·exact h
  ·exact h.elim⟩)
def zol  (zhh:Df K mg "joined" zjy zes)(zlt:Fk P w K mg base 1 "hull" ze3 ze4):Fk P w K mg base 2 "joined" zes zdQ:=
 zhh.mk' (zaA (k:=1) zhh.F zq1 (zrp) λcdv A outer s H E hr=>⟨_,(zae (zas (zan zbE (dv 0) zaF (zam _)) (zaf (zak (dv 1))) zau) (zae (zas (zan zbE (dv 1) zaF (zam _)) (zaf (zak (dv 0))) zau) (zaf (zak (zaq zlt hr (zaa (dv 0) (zaa (dv 1) zac))))))),λds S Q ex h=>by
  unfold zdQ at h
  split at h
  ·exact h
  ·exact h
  ·exact h
  ·exact h.elim⟩)
def zoz  (zg8:Df K mg "opposite" zja zde):Fk P w K mg base 1 "opposite" zde zda:=
 zg8.mk' (zaA (k:=0) zg8.F zpF (zrP) λcdv A outer s H E hr=>⟨_,(zaf (zak (zaB (zaa (zaT zaS (zad (dv 0) zab (λ_ _=>rfl))) (zaa (zaT zaS (zad (dv 0) zab (λ_ _=>rfl))) zac))))),λds S Q ex h=>by
  unfold zda at h
  split at h
  ·exact h
  ·exact h.elim⟩)
def zpt  (zhd:Df K mg "back_times" zjE zeM)(zdO:Fk P w K mg base 2 "joined" zes zdQ)(ziJ:Fk P w K mg base 3 "back_by_side" zeV zfO)(zbP:Fk P w K mg base 1 "opposite" zde zda)(zgK:Fk P w K mg base 1 "holds_nought" zge zf7)(zaG:mg "max"=none):Fk P w K mg base 4 "back_times" zeM zed:=
 zhd.mk' (zaA (k:=3) zhd.F zez (zpN) λcdv A outer s H E hr=>⟨_,(zae (zas (PDW.pt (zf6 (zcP (zaq zgK hr (zaa (dv 2) zac))) (zfV (zcP (zaq zgK hr (zaa (dv 0) zac)))))) (zaf (zak (dv 1))) zau) (zae (zal (i:=4) zez.nd rfl (Or.inl rfl) (zaB (zaa (zag zaN (zad (dv 0) zab (λ_ _=>rfl)) (dv 3)) (zaa (zag zaN (zad (dv 0) zab (λ_ _=>rfl)) (dv 3)) zac)))) (zae (zal (i:=5) zez.nd rfl (Or.inl rfl) zaF) (zae (zas (zan zbS (zad (dv 2) zab (λ_ _=>rfl)) zab (zam _)) (zaf (zal (i:=5) zez.nd rfl (Or.inl rfl) (zaq ziJ hr (zaa (dv 4) (zaa (dv 1) (zaa (zaB (zaa (zaH (zbw rfl) rfl zaG Boot.«max» (zaa (zad (dv 2) zab (λ_ _=>rfl)) (zaa zab zac))) (zaa (zad (dv 2) zab (λ_ _=>rfl)) zac))) zac)))))) zau) (zae (zas (zan zbp (zad (dv 2) zab (λ_ _=>rfl)) zab (zam _)) (zae (zal (i:=6) zez.nd rfl (Or.inl rfl) (zaq ziJ hr (zaa (zaq zbP hr (zaa (dv 4) zac)) (zaa (dv 1) (zaa (zaB (zaa (zaH (zbw rfl) rfl zaG Boot.«max» (zaa (zaT zaS (zad (dv 2) zab (λ_ _=>rfl))) (zaa zab zac))) (zaa (zaT zaS (zad (dv 2) zab (λ_ _=>rfl))) zac))) zac))))) (zaf (zal (i:=5) zez.nd rfl (Or.inl rfl) (zaq zdO hr (zaa (dv 5) (zaa (dv 6) zac)))))) zau) (zaf (zak (dv 5)))))))),λds S Q ex h=>by
  unfold zed at h
  split at h
  ·rename_i z0 z1 x0 x1 y0 y1 g
   obtain⟨⟨hy,sz0,sz1,sy0,sy1,sg⟩,hn,ht⟩:=h
   have eq:¬ ((y0≤0∧0≤y1)∧z0≤0∧0≤z1)→btS (z0,z1) (x0,x1) (y0,y1) g=joS (if y1 > 0 then sdS (z0*g) (z1*g) (x0,x1) (mx0 y0) y1 else none) (if y0<0 then sdS (-(z1*g)) (-(z0*g)) (x0,x1) (mx0 (-y1)) (-y0) else none):=λn=>if_neg n
   refine if2 (λa1 a2=>?_) (λn=>?_)
   ·refine if2 (λb1 b2=>?_) (λn=>?_)
    ·exact ht (x0,x1) (if_pos ⟨⟨a1,a2⟩,b1,b2⟩)
    ·have eb:=eq λz=>n z.2
     refine⟨zaD sz0 sg,zaD sz1 sg,?_⟩
     refine ifD (λc1=>?_) (λc1=>?_)
     ·refine⟨⟨zbJ _,c1,zc7 (sy0.mono (by decide)),sy1.mono (by decide)⟩,λn1=>?_,λL t1=>?_⟩
      ·refine ifD (λc2=>?_) (λc2=>?_)
       ·refine⟨⟨zbJ _,by omega,zc7 (sy1.neg.mono (by decide)),sy0.neg.mono (by decide)⟩,λn2=>?_,λL' t2=>?_⟩
        ·exact hn (by rw[eb,if_pos c1,if_pos c2,n1,n2]; rfl)
        ·exact ht _ (by rw[eb,if_pos c1,if_pos c2,n1,t2]; rfl)
       ·exact hn (by rw[eb,if_pos c1,if_neg c2,n1]; rfl)
      ·refine ifD (λc2=>?_) (λc2=>?_)
       ·refine⟨⟨zbJ _,by omega,zc7 (sy1.neg.mono (by decide)),sy0.neg.mono (by decide)⟩,λn2=>?_,λL' t2=>?_⟩
        ·exact ht _ (by rw[eb,if_pos c1,if_pos c2,t1,n2]; rfl)
        ·have z:=ht (if L'.1<L.1 then L'.1 else L.1,if L'.2 > L.2 then L'.2 else L.2) (by rw[eb,if_pos c1,if_pos c2,t1,t2]; rfl)
         exact z
       ·exact ht _ (by rw[eb,if_pos c1,if_neg c2,t1]; rfl)
     ·refine ifD (λc2=>?_) (λc2=>?_)
      ·refine⟨⟨zbJ _,by omega,zc7 (sy1.neg.mono (by decide)),sy0.neg.mono (by decide)⟩,λn2=>?_,λL' t2=>?_⟩
       ·exact hn (by rw[eb,if_neg c1,if_pos c2,n2]; rfl)
       ·exact ht _ (by rw[eb,if_neg c1,if_pos c2,t2]; rfl)
      ·exact hn (by rw[eb,if_neg c1,if_neg c2]; rfl)
   ·have eb:=eq λz=>n z.1
    refine⟨zaD sz0 sg,zaD sz1 sg,?_⟩
    refine ifD (λc1=>?_) (λc1=>?_)
    ·refine⟨⟨zbJ _,c1,zc7 (sy0.mono (by decide)),sy1.mono (by decide)⟩,λn1=>?_,λL t1=>?_⟩
     ·refine ifD (λc2=>?_) (λc2=>?_)
      ·refine⟨⟨zbJ _,by omega,zc7 (sy1.neg.mono (by decide)),sy0.neg.mono (by decide)⟩,λn2=>?_,λL' t2=>?_⟩
       ·exact hn (by rw[eb,if_pos c1,if_pos c2,n1,n2]; rfl)
       ·exact ht _ (by rw[eb,if_pos c1,if_pos c2,n1,t2]; rfl)
      ·exact hn (by rw[eb,if_pos c1,if_neg c2,n1]; rfl)
     ·refine ifD (λc2=>?_) (λc2=>?_)
      ·refine⟨⟨zbJ _,by omega,zc7 (sy1.neg.mono (by decide)),sy0.neg.mono (by decide)⟩,λn2=>?_,λL' t2=>?_⟩
       ·exact ht _ (by rw[eb,if_pos c1,if_pos c2,t1,n2]; rfl)
       ·have z:=ht (if L'.1<L.1 then L'.1 else L.1,if L'.2 > L.2 then L'.2 else L.2) (by rw[eb,if_pos c1,if_pos c2,t1,t2]; rfl)
        exact z
      ·exact ht _ (by rw[eb,if_pos c1,if_neg c2,t1]; rfl)
    ·refine ifD (λc2=>?_) (λc2=>?_)
     ·refine⟨⟨zbJ _,by omega,zc7 (sy1.neg.mono (by decide)),sy0.neg.mono (by decide)⟩,λn2=>?_,λL' t2=>?_⟩
      ·exact hn (by rw[eb,if_neg c1,if_pos c2,n2]; rfl)
      ·exact ht _ (by rw[eb,if_neg c1,if_pos c2,t2]; rfl)
     ·exact hn (by rw[eb,if_neg c1,if_neg c2]; rfl)
  ·exact h.elim⟩)
def zsS  (zaj:zbN K mg)(zi8:Dm K zaj.C "first_left" "Times.first_left" zhu zgh)(zd9:Fk P w K mg base 4 "back_times" zeM zed):Fm P w K mg base 5 zaj.C "first_left" zgh zft:=
 zi8.mk' (zaA (k:=4) zi8.F zpm (zsA) λcdv A outer s H E hr=>⟨_,(zaf (zak (zaq zd9 hr (zaa (dv 1) (zaa (dv 2) (zaa (dv 3) (zaa (dv 4) zac))))))),λds S Q ex h=>by
  unfold zft at h
  split at h
  ·exact h
  ·exact h.elim⟩)
def zo2  (zaj:zbN K mg)(zjw:Dm K zaj.C "second_left" "Times.second_left" zhV zfC)(zd9:Fk P w K mg base 4 "back_times" zeM zed):Fm P w K mg base 5 zaj.C "second_left" zfC zeW:=
 zjw.mk' (zaA (k:=4) zjw.F zqM (zqy) λcdv A outer s H E hr=>⟨_,(zaf (zak (zaq zd9 hr (zaa (dv 1) (zaa (dv 3) (zaa (dv 2) (zaa (dv 4) zac))))))),λds S Q ex h=>by
  unfold zeW at h
  split at h
  ·exact h
  ·exact h.elim⟩)
def zsQ  (zaj:zbN K mg)(zap:zcn K mg)(zar:zci K mg)(zai:zbO K mg)(zah:zbK K mg)(zao:zck K mg)(ziU:Dm K zaj.C "back" "Pair.back" ziP zfj)(zfn:Fm P w K mg base 5 zaj.C "second_left" zfC zeW)(zfl:Fm P w K mg base 5 zaj.C "first_left" zgh zft):Fm P w K mg base 6 zaj.C "back" zfj (zeE zap.C zar.C zai.C zah.C zaj.C zao.C):=
 ziU.mk' (zaA (k:=5) ziU.F zkb (zoU zap.C zar.C zai.C zah.C zaj.C zao.C) λcdv A outer s H E hr=>⟨_,(zae (zal (i:=4) zkb.nd rfl (Or.inl rfl) (zer (C:=zaj.C) (dv 0) zaj.cl zfl.m zfl.ok (hr.mono (by decide)) zfl.b zcw (zaa (dv 2) (zaa (za1 (dv 1) (za6 zaj.cl zaj.n_one (dv 0)) (λ_ _=>rfl)) (zaa (za1 (dv 1) (za6 zaj.cl zaj.n_other (dv 0)) (λ_ _=>rfl)) (zaa (dv 3) zac)))))) (zae (zas (zan zbE (dv 4) zaF (zam _)) (zaf (zak zaF)) zau) (zae (zal (i:=5) zkb.nd rfl (Or.inl rfl) (zcY (zan (zaI hr) (za6 zaj.cl zaj.n_one (dv 0)) (za6 zaj.cl zaj.n_other (dv 0)) (zam _)) (dv 4) (za1 (dv 1) (za6 zaj.cl zaj.n_other (dv 0)) (λ_ _=>rfl)))) (zae (zal (i:=5) zkb.nd rfl (Or.inl rfl) (zer (C:=zaj.C) (dv 0) zaj.cl zfn.m zfn.ok (hr.mono (by decide)) zfn.b zcw (zaa (dv 2) (zaa (dv 4) (zaa (dv 5) (zaa (dv 3) zac)))))) (zae (zas (zan zbE (dv 5) zaF (zam _)) (zaf (zak zaF)) zau) (zaf (zak (zbe (zaa (zaB (zaa (za6 zaj.cl zaj.n_one (dv 0)) (zaa (dv 4) zac))) (zaa (zaB (zaa (za6 zaj.cl zaj.n_other (dv 0)) (zaa (dv 5) zac))) zac)))))))))),λds S Q ex h=>by
  unfold zeE at h
  split at h
  ·rename_i n w z0 z1 g
   obtain⟨i,j,vs,q,hn,hw,ok,hs,⟨hz,sz0,sz1⟩,hg,h1,h2⟩:=h
   have a:=hs.at ok.1
   have b:=hs.at ok.2
   have sg:Sz 30 g:=Sz.of 1000000 (by omega)
   refine zcE (n:=n) (fs:=[("one",.int i),("other",.int j)]) (λK hK=>by exact hK) hn rfl ?_
   refine zaV (n:=n) (λK hK=>by exact hK) hn rfl ?_
   refine zaJ (o:=.lst (vs.map frD)) hw (zaY ok.1) ?_
   refine zaV (n:=n) (λK hK=>by exact hK) hn rfl ?_
   refine zaJ (o:=.lst (vs.map frD)) hw (zaY ok.2) ?_
   refine⟨⟨b.1,sz0.mono (by decide),sz1.mono (by decide),b.2.1.mono (by decide),b.2.2.mono (by decide),sg⟩,λe=>?_,λx' e=>?_⟩
   ·have e':btS (z0,z1) (gt vs i) (gt vs j) g=none:=e
    refine h1 ?_
    unfold Nd.bk bk2
    dsimp only
    rw[e']
   ·have e':btS (z0,z1) (gt vs i) (gt vs j) g=some x':=e
    have zx:=Sz.in2 a.2.1 a.2.2 (zgl (z:=(z0,z1)) hz a.1 b.1 hg.1 x' e')
    refine zaV (n:=n) (λK hK=>by exact hK) hn rfl ?_
    refine zaV (n:=n) (λK hK=>by exact hK) hn rfl ?_
    refine ifD (λc=>?_) (λc=>?_)
    ·skip
     refine zcE (n:=n) (fs:=[("one",.int i),("other",.int j)]) (λK hK=>by exact hK) hn rfl ?_
     refine⟨⟨zx.1,sz0.mono (by decide),sz1.mono (by decide),zx.2.1.mono (by decide),zx.2.2.mono (by decide),sg⟩,λe2=>?_,λy' e2=>?_⟩
     ·refine h1 ?_
      unfold Nd.bk bk2
      dsimp only
      rw[e']
      dsimp only
      rw[if_pos c,show btS (z0,z1) x' x' g=none from e2]
     ·refine zaV (n:=n) (λK hK=>by exact hK) hn rfl ?_
      refine zaV (n:=n) (λK hK=>by exact hK) hn rfl ?_
      refine h2 [(i,x'),(j,y')] ?_
      unfold Nd.bk bk2
      dsimp only
      rw[e']
      dsimp only
      rw[if_pos c,show btS (z0,z1) x' x' g=some y' from e2]
    ·refine zaV (n:=n) (λK hK=>by exact hK) hn rfl ?_
     refine zaJ (o:=.lst (vs.map frD)) hw (zaY ok.2) ?_
     refine zcE (n:=n) (fs:=[("one",.int i),("other",.int j)]) (λK hK=>by exact hK) hn rfl ?_
     refine⟨⟨zx.1,sz0.mono (by decide),sz1.mono (by decide),zx.2.1.mono (by decide),zx.2.2.mono (by decide),sg⟩,λe2=>?_,λy' e2=>?_⟩
     ·refine h1 ?_
      unfold Nd.bk bk2
      dsimp only
      rw[e']
      dsimp only
      rw[if_neg c,show btS (z0,z1) (gt vs j) x' g=none from e2]
     ·refine zaV (n:=n) (λK hK=>by exact hK) hn rfl ?_
      refine zaV (n:=n) (λK hK=>by exact hK) hn rfl ?_
      refine h2 [(i,x'),(j,y')] ?_
      unfold Nd.bk bk2
      dsimp only
      rw[e']
      dsimp only
      rw[if_neg c,show btS (z0,z1) (gt vs j) x' g=some y' from e2]
  ·exact h.elim⟩)
def znN  (zjj:Df K mg "raised" zhj zcU)(zbh:mg "range"=none):Fk P w K mg base 1 "raised" zcU zcS:=
 zjj.mk' (zaA (k:=0) zjj.F zhB (zrq) λcdv A outer s H E hr=>⟨_,(zae (zal (i:=2) zhB.nd rfl (Or.inl rfl) zab) (zae (zhL (i:=3) PassesOwn.never rfl zhB.nd rfl (Or.inl rfl) rfl zbh (zaa (dv 1) zac) (zaf (zal (i:=2) zhB.nd rfl (Or.inl rfl) (zag zaN (dv 2) (dv 0))))) (zaf (zak (dv 2))))),λds S Q ex h=>by
  unfold zcS at h
  split at h
  ·rename_i x n
   obtain⟨⟨h0,h6,sx⟩,h⟩:=h
   refine⟨⟨by omega,by omega⟩,λk dl' S'=>S'=S∧k≤n.toNat∧∃(z:Int) (o:Option D),z=x^k∧dl'=[some (.int x),some (.int n),some (.int z),o],⟨rfl,VaU _,1,none,(VaE x).symm,rfl⟩,?_⟩
   rintro k dl' S' ⟨rfl,hk,z,o,rfl,rfl⟩
   refine zfc (λc=>?_) (λc=>?_)
   ·exact⟨zaD (m:=12001) (n:=2000) ((sx.pow k).mono (by omega)) sx,rfl,by omega,_,_,(Vac x k).symm,rfl⟩
   ·have e:k=n.toNat:=by omega
    subst e
    exact h
  ·exact h.elim⟩)
def zsP  (zjq:Df K mg "next_guess" ziy zf0)(zb6:Fk P w K mg base 1 "raised" zcU zcS):Fk P w K mg base 2 "next_guess" zf0 zgf:=
 zjq.mk' (zaA (k:=1) zjq.F zn1 (zo8) λcdv A outer s H E hr=>⟨_,(zaf (zak (zag zby (zag za5 (zag zaN (zag zbr (dv 2) zab) (dv 0)) (zag zby (dv 1) (zaq zb6 hr (zaa (dv 0) (zaa (zag zbr (dv 2) zab) zac))))) (dv 2)))),λds S Q ex h=>by
  unfold zgf at h
  split at h
  ·rename_i g N n
   obtain⟨⟨n2,n6,hg,sg⟩,h⟩:=h
   have zn:Sz 800 (n-1):=Sz.of 6 (by omega)
   have gp:(0:Int)<g^(n-1).toNat:=Vau hg
   exact⟨zaD zn sg,⟨by omega,by omega,sg.mono (by decide)⟩,((sg.pow (n-1).toNat).mono (show _≤4001 by omega)).fd gp,(Sz.of (n:=800) 6 (by omega):Sz 800 n).fd (by omega),h⟩
  ·exact h.elim⟩)
def zps  (zig:Df K mg "root_below" zjc zeG)(zhb:Fk P w K mg base 2 "next_guess" zf0 zgf):Fk P w K mg base 3 "root_below" zeG zep:=
 zig.mk' (zaA (k:=2) zig.F zgo (zoR) λcdv A outer s H E hr=>⟨_,(zae (zas (zan (zaI hr) (dv 0) zab (zam _)) (zaf (zak zab)) zau) (zae (zal (i:=2) zgo.nd rfl (Or.inl rfl) (zag zp2 zab (zag za5 (zag zby (zqi (dv 0)) (dv 1)) zab))) (zae (zal (i:=3) zgo.nd rfl (Or.inl rfl) (zaq zhb hr (zaa (dv 2) (zaa (dv 0) (zaa (dv 1) zac))))) (zae (zl1 PassesOwn.never (zan zbp (dv 3) (dv 2) (zam _)) (zae (zal (i:=2) zgo.nd rfl (Or.inl rfl) (dv 3)) (zaf (zal (i:=3) zgo.nd rfl (Or.inl rfl) (zaq zhb hr (zaa (dv 2) (zaa (dv 0) (zaa (dv 1) zac)))))))) (zaf (zak (dv 2))))))),λds S Q ex h=>by
  unfold zep at h
  split at h
  ·rename_i N n
   obtain⟨⟨n2,n6,h0,sN⟩,h⟩:=h
   have hn:1≤n.toNat:=by omega
   refine ifD (λc=>?_) (λc=>?_)
   ·subst c
    exact h 0 (by omega) (Sz.of 0 (by decide)) (by rw[zef hn]; omega) (by
     have:(0:Int)<(0+1)^n.toNat:=Vau (by omega)
     exact this)
   ·obtain⟨r,r0,r1,r2⟩:=zkD hn h0
    have rp:1≤r:=by
     by_cases z:r=0
     ·subst z
      have e:((0:Int)+1)^n.toNat=1:=by rw[Int.zero_add]; exact Int.one_pow
      omega
     ·omega
    refine⟨(Sz.of (n:=800) 6 (by omega):Sz 800 n).fd (by omega),?_⟩
    have d3:=Int.ediv_nonneg (show (0:Int)≤(Builtin.Int.intBits N:Int) by omega) (show 0≤n by omega)
    have d4:(Builtin.Int.intBits N:Int)/n≤(Builtin.Int.intBits N:Int):=Int.ediv_le_self _ (by omega)
    have d5:=sN.bits
    refine⟨⟨by omega,by omega,by decide⟩,?_⟩
    have s0:=(zqX n2 sN).mono (show 652≤800 by decide)
    have g0:(0:Int)<1*2^((Builtin.Int.intBits N:Int)/n+1).toNat:=by rw[Int.one_mul]; exact Vau (by decide)
    have rg:r≤1*2^((Builtin.Int.intBits N:Int)/n+1).toNat:=by
     have:=plt (n:=n.toNat) (Vaf g0) (Int.lt_of_le_of_lt r1 (zp0 h0 (by omega)))
     omega
    refine⟨⟨n2,n6,g0,s0⟩,?_⟩
    refine⟨λm dl' S'=>S'=S∧∃x:Int,dl'=[some (.int N),some (.int n),some (.int x),some (.int (((n-1)*x+N/x^(n-1).toNat)/n))]∧0<x∧r≤x∧Sz 800 x∧m=x.toNat,⟨_,rfl,_,rfl,g0,rg,s0,rfl⟩,?_⟩
    rintro m dl' S' ⟨rfl,x,rfl,x0,rx,sx,rfl⟩
    have e:=zry (n:=n) (g:=x) (N:=N) (by omega)
    have ge:=zqP hn r0 x0 r1
    rw[← e] at ge
    refine ifD (λc=>?_) (λc=>?_)
    ·have s1:Sz 800 (((n-1)*x+N/x^(n-1).toNat)/n):=Sz.mid (a:=0) (Sz.of 0 (by decide)) sx (by omega) (by omega)
     exact⟨⟨n2,n6,by omega,s1⟩,_,by omega,rfl,_,rfl,by omega,by omega,s1,rfl⟩
    ·have xr:x=r:=by
      by_cases z:N<x^n.toNat
      ·have lt:=zoO hn x0 z
       rw[← e] at lt
       omega
      ·have:=plt (n:=n.toNat) (show 0≤r+1 by omega) (show x^n.toNat<(r+1)^n.toNat by omega)
       omega
     subst xr
     exact h x r0 sx r1 r2
  ·exact h.elim⟩)
def zrL (zcy:Df K mg "root" zfM zcI)(zb6:Fk P w K mg base 1 "raised" zcU zcS)(zea:Fk P w K mg base 3 "root_below" zeG zep)(zbP:Fk P w K mg base 1 "opposite" zde zda)(zlu:Fk P w K mg base 0 "root" zcI zm1):Fk P w K mg base 4 "root" zcI zfU:=
 zcy.mk' (zaA (k:=3) zcy.F ziF zqz λcdv A outer s H E hr=>⟨_,(zae (zas (zan zbp (dv 0) zab (zam _)) (zaf (zak (zaq zbP hr (zaa (zlz zlu (hr.mono (by decide)) zcw rfl (zaa (zaT zaS (dv 0)) (zaa (dv 1) zac))) zac)))) zau) (zae (zal (i:=2) ziF.nd rfl (Or.inl rfl) (zaq zea hr (zaa (dv 0) (zaa (dv 1) zac)))) (zae (zas (zan (zaI hr) (zaq zb6 hr (zaa (dv 2) (zaa (dv 1) zac))) (dv 0) (zam _)) (zaf (zak (zaB (zaa (dv 2) (zaa (dv 2) zac))))) zau) (zaf (zak (zaB (zaa (dv 2) (zaa (zag za5 (dv 2) zab) zac)))))))),λds S Q ex h=>by
  unfold zfU at h
  split at h
  ·rename_i N n
   obtain⟨⟨n2,n6,h0,sN⟩,h⟩:=h
   refine ifD (λc=>absurd c (by omega)) (λc=>?_)
   refine⟨⟨n2,n6,h0,sN⟩,λr r0 sr r1 r2=>?_⟩
   have e:=zeJ r0 r1 r2
   unfold rt0 at h
   rw[← e] at h
   refine⟨⟨by omega,n6,sr.mono (by decide)⟩,?_⟩
   refine ifD (λe2=>?_) (λe2=>?_)
   ·rw[if_pos e2] at h
    exact h
   ·rw[if_neg e2] at h
    exact h
  ·exact h.elim⟩)
def zqK (zcy:Df K mg "root" zfM zcI)(zb6:Fk P w K mg base 1 "raised" zcU zcS)(zea:Fk P w K mg base 3 "root_below" zeG zep)(zbP:Fk P w K mg base 1 "opposite" zde zda)(zlu:Fk P w K mg base 4 "root" zcI zfU):Fk P w K mg base 5 "root" zcI zf5:=
 zcy.mk' (zaA (k:=4) zcy.F ziF zoM λcdv A outer s H E hr=>⟨_,(zae (zas (zan zbp (dv 0) zab (zam _)) (zaf (zak (zaq zbP hr (zaa (zlz zlu (hr.mono (by decide)) zcw rfl (zaa (zaT zaS (dv 0)) (zaa (dv 1) zac))) zac)))) zau) (zae (zal (i:=2) ziF.nd rfl (Or.inl rfl) (zaq zea hr (zaa (dv 0) (zaa (dv 1) zac)))) (zae (zas (zan (zaI hr) (zaq zb6 hr (zaa (dv 2) (zaa (dv 1) zac))) (dv 0) (zam _)) (zaf (zak (zaB (zaa (dv 2) (zaa (dv 2) zac))))) zau) (zaf (zak (zaB (zaa (dv 2) (zaa (zag za5 (dv 2) zab) zac)))))))),λds S Q ex h=>by
  unfold zf5 at h
  split at h
  ·rename_i N n
   obtain⟨⟨n2,n6,ok,sN⟩,h⟩:=h
   unfold rtS at h
   refine ifD (λc=>?_) (λc=>?_)
   ·rw[if_pos c] at h
    exact⟨⟨n2,n6,by omega,sN.neg⟩,h⟩
   ·have h0:0≤N:=by omega
    rw[if_neg c] at h
    refine⟨⟨n2,n6,h0,sN⟩,λr r0 sr r1 r2=>?_⟩
    have e:=zeJ r0 r1 r2
    unfold rt0 at h
    rw[← e] at h
    refine⟨⟨by omega,n6,sr.mono (by decide)⟩,?_⟩
    refine ifD (λe2=>?_) (λe2=>?_)
    ·rw[if_pos e2] at h
     exact h
    ·rw[if_neg e2] at h
     exact h
  ·exact h.elim⟩)
def zrh  (zhF:Df K mg "back_power" zib zgs)(zdO:Fk P w K mg base 2 "joined" zes zdQ)(zc8:Fk P w K mg base 1 "part_between" zeL zdL)(zbP:Fk P w K mg base 1 "opposite" zde zda)(zd4:Fk P w K mg base 5 "root" zcI zf5)(zb6:Fk P w K mg base 1 "raised" zcU zcS)(zaG:mg "max"=none):Fk P w K mg base 6 "back_power" zgs zfK:=
 zhF.mk' (zaA (k:=5) zhF.F zfz (zpW) λcdv A outer s H E hr=>⟨_,(zae (zal (i:=4) zfz.nd rfl (Or.inl rfl) (zaq zb6 hr (zaa (dv 3) (zaa (zag zbr (dv 2) zab) zac)))) (zae (zal (i:=5) zfz.nd rfl (Or.inl rfl) (zaB (zaa (zag zaN (zad (dv 0) zab (λ_ _=>rfl)) (dv 4)) (zaa (zag zaN (zad (dv 0) zab (λ_ _=>rfl)) (dv 4)) zac)))) (zae (zas (zan (zaI hr) (zag zbf (dv 2) zab) zab (zam _)) (zaf (zak (zaq zc8 hr (zaa (dv 1) (zaa (zaq zd4 hr (zaa (zad (dv 5) zab (λ_ _=>rfl)) (zaa (dv 2) zac))) (zaa (zaq zd4 hr (zaa (zad (dv 5) zab (λ_ _=>rfl)) (zaa (dv 2) zac))) zac)))))) zau) (zae (zas (zan zbp (zad (dv 5) zab (λ_ _=>rfl)) zab (zam _)) (zaf (zak zaF)) zau) (zae (zal (i:=6) zfz.nd rfl (Or.inl rfl) (zaq zd4 hr (zaa (zaH (zbw rfl) rfl zaG Boot.«max» (zaa (zad (dv 5) zab (λ_ _=>rfl)) (zaa zab zac))) (zaa (dv 2) zac)))) (zae (zal (i:=7) zfz.nd rfl (Or.inl rfl) (zaq zd4 hr (zaa (zad (dv 5) zab (λ_ _=>rfl)) (zaa (dv 2) zac)))) (zaf (zak (zaq zdO hr (zaa (zaq zc8 hr (zaa (dv 1) (zaa (dv 6) (zaa (dv 7) zac)))) (zaa (zaq zc8 hr (zaa (dv 1) (zaa (zaq zbP hr (zaa (dv 7) zac)) (zaa (zaq zbP hr (zaa (dv 6) zac)) zac)))) zac))))))))))),λds S Q ex h=>by
  unfold zfK at h
  split at h
  ·rename_i z0 z1 x0 x1 n g
   obtain⟨⟨n2,n6,g1,sg,sz0,sz1⟩,hn,ht⟩:=h
   refine⟨⟨by omega,by omega,sg.mono (by decide)⟩,?_⟩
   have sgp:Sz 181 (g^(n-1).toNat):=(sg.pow _).mono (by omega)
   refine⟨zaD sz0 sgp,zaD sz1 sgp,?_⟩
   have slo:Sz 1300 (z0*g^(n-1).toNat):=(sz0.mul sgp).mono (by decide)
   have shi:Sz 1300 (z1*g^(n-1).toNat):=(sz1.mul sgp).mono (by decide)
   unfold bpS at hn ht
   dsimp only at hn ht
   generalize g^(n-1).toNat=G at *
   refine ifD (λe=>?_) (λe=>?_)
   ·rw[if_pos e] at hn ht
    exact⟨⟨n2,n6,.inl e,slo⟩,⟨n2,n6,.inl e,shi⟩,hn,ht⟩
   ·rw[if_neg e] at hn ht
    refine ifD (λe2=>?_) (λe2=>?_)
    ·exact hn (if_pos e2)
    ·rw[if_neg e2] at hn ht
     refine⟨⟨n2,n6,.inr (zbJ _),(by show Sz 1300 (mx0 (z0*G)); unfold mx0; split; exact Sz.of 0 (by decide) (Nat.pow_pos (by decide)); exact slo)⟩,?_⟩
     refine⟨⟨n2,n6,.inr (by omega),shi⟩,?_⟩
     refine⟨λq1=>?_,λp1 q1=>?_⟩
     ·refine⟨λq2=>hn ?_,λp2 q2=>ht _ ?_⟩
      ·rw[q1,q2]; rfl
      ·rw[q1,q2]; rfl
     ·refine⟨λq2=>ht _ ?_,λp2 q2=>?_⟩
      ·rw[q1,q2]; rfl
      ·have z:=ht (if p2.1<p1.1 then p2.1 else p1.1,if p2.2 > p1.2 then p2.2 else p1.2) (by rw[q1,q2]; rfl)
       exact z
  ·exact h.elim⟩)
def zsG  (zao:zck K mg)(zap:zcn K mg)(zar:zci K mg)(zai:zbO K mg)(zah:zbK K mg)(zaj:zbN K mg)(zh4:Dm K zao.C "back" "Power.back" zjV zfT)(zlM:Fk P w K mg base 6 "back_power" zgs zfK):Fm P w K mg base 7 zao.C "back" zfT (zeA zap.C zar.C zai.C zah.C zaj.C zao.C):=
 zh4.mk' (zaA (k:=6) zh4.F zmZ (zqb zap.C zar.C zai.C zah.C zaj.C zao.C) λcdv A outer s H E hr=>⟨_,(zae (zal (i:=4) zmZ.nd rfl (Or.inl rfl) (zaq zlM hr (zaa (dv 2) (zaa (za1 (dv 1) (za6 zao.cl zao.n_one (dv 0)) (λ_ _=>rfl)) (zaa (za6 zao.cl zao.n_many (dv 0)) (zaa (dv 3) zac)))))) (zae (zas (zan zbE (dv 4) zaF (zam _)) (zaf (zak zaF)) zau) (zaf (zak (zbe (zaa (zaB (zaa (za6 zao.cl zao.n_one (dv 0)) (zaa (dv 4) zac))) zac)))))),λds S Q ex h=>by
  unfold zeA at h
  split at h
  ·rename_i n w z0 z1 g
   obtain⟨i,m,vs,q,hn,hw,ok,hs,⟨hz,sz0,sz1⟩,hg,h1,h2⟩:=h
   refine zaV (n:=n) (λK hK=>by exact hK) hn rfl ?_
   refine zaJ (o:=.lst (vs.map frD)) hw (zaY ok.1) ?_
   refine zaV (n:=n) (λK hK=>by exact hK) hn rfl ?_
   have sg:Sz 30 g:=Sz.of 1000000 (by omega)
   refine⟨⟨ok.2.1,ok.2.2,hg.1,sg,sz0.mono (by decide),sz1.mono (by decide)⟩,λe=>?_,λx' e=>?_⟩
   ·refine h1 ?_
    show (match bpS (z0,z1) (gt vs i) m g with | none=>none | some x=>some [(i,x)])=none
    rw[show bpS (z0,z1) (gt vs i) m g=none from e]
   ·refine zaV (n:=n) (λK hK=>by exact hK) hn rfl ?_
    refine h2 [(i,x')] ?_
    show (match bpS (z0,z1) (gt vs i) m g with | none=>none | some x=>some [(i,x)])=_
    rw[show bpS (z0,z1) (gt vs i) m g=some x' from e]
  ·exact h.elim⟩)
def zpT  (zao:zck K mg)(zaj:zbN K mg)(zah:zbK K mg)(zai:zbO K mg)(zar:zci K mg)(zap:zcn K mg)(zij:Df K mg "law" zcO zit)(zk2:Fk P w K mg base 3 "_law_parts_are" zeY zf3)(zkx:Fm P w K mg base 7 zao.C "back" zfT (zeA zap.C zar.C zai.C zah.C zaj.C zao.C))(zlB:Fm P w K mg base 6 zaj.C "back" zfj (zeE zap.C zar.C zai.C zah.C zaj.C zao.C))(zlp:Fm P w K mg base 3 zah.C "back" zfm (zdM zap.C zar.C zai.C zah.C zaj.C zao.C))(zla:Fm P w K mg base 3 zai.C "back" zfu (zd3 zap.C zar.C zai.C zah.C zaj.C zao.C))(zkC:Fm P w K mg base 1 zar.C "back" zfF (zd5 zap.C zar.C zai.C zah.C zaj.C zao.C))(zlg:Fm P w K mg base 1 zap.C "back" zgu (zeK zap.C zar.C zai.C zah.C zaj.C zao.C))(zlv:Fk P w K mg base 4 "_law_made" zgk (zgp zap.C zar.C zai.C zah.C zaj.C zao.C))(zkR:Fk P w K mg base 6 "_law_back_part" zfW zga)(zkq:Fk P w K mg base 3 "_law_here" zfr ze7)(zdp:Fk P w K mg base 1 "_law_span" zdR zen)(zgq:Fk P w K mg base 1 "_law_cell" zfp zfg)(zlH:Fk P w K mg base 1 "_law_grid" zfs zgi)(zbh:mg "range"=none)(za2:mg "len"=none)(zbH:mg "list"=none):Fk P w K mg base 8 "law" zit zeR:=
 zij.mk' (zaA (k:=7) zij.F zbo zp8 λcdv A outer s H E hr=>⟨_,(zae (zal (i:=1) zbo.nd rfl (Or.inl rfl) (zp1 (dv 0) (zmP zab) (zmP zab))) (zae (zal (i:=2) zbo.nd rfl (Or.inl rfl) (zaq zlH hr (zaa (zaq zgq hr (zaa (dv 0) (zaa zab zac))) zac))) (zae (zal (i:=3) zbo.nd rfl (Or.inl rfl) (zag za5 zab (zag zbf (zaq zgq hr (zaa (dv 0) (zaa zab zac))) zab))) (zae (zp9 (x:="_law_k") (N:=["_law_script"]) (caps:=[0]) (ar:=zat zcO) rfl rfl csc rfl (by decide) (i:=4) zbo.nd rfl rfl rfl zbh (zaa (dv 3) zac) (λ_ _ _ _ _ _=>zfo) (λ_ _ _ _ _ _=>(zaq zdp hr (zaa (zaq zgq hr (zaa (dv 1) (zaa (zag za5 zab (dv 0)) zac))) zac)))) (zae (zal (i:=5) zbo.nd rfl (Or.inl rfl) (zag zqF (zbe (zaa (zaB (zaa (zaT zaS zab) (zaa zab zac))) zac)) (zkm (x:="_law_cell_here") (N:=[]) (caps:=[]) (ar:=zat zcO) rfl rfl csc rfl (by decide) (dv 1) (λ_ _ _ _ _ _=>zfo) (λ_ _ _ _ _ _=>(zaq zdp hr (zaa (zag za5 (zag zaN (zag zbu (dv 0) (zag zeP zab zab)) zab) zab) zac)))))) (zae (zhL (i:=6) PassesOwn.never rfl zbo.nd rfl (Or.inl rfl) rfl zbh (zaa (zaH (zbj zcr) rfl za2 Boot.«len» (zaa (dv 1) zac)) zac) (zae (zal (i:=7) zbo.nd rfl (Or.inl rfl) (zag zbu (za1 (dv 1) (dv 6) (λ_ _=>rfl)) (zag zeP zab zab))) (zae (zal (i:=8) zbo.nd rfl (Or.inl rfl) (zaB (zaa za9 (zaa (zag zbu (zag zbq (dv 7) zab) (zaH (zbj zcr) rfl za2 Boot.«len» (zaa (dv 5) zac))) (zaa (zag zbu (zag zbu (zag zaN (dv 7) zab) zab) (zaH (zbj zcr) rfl za2 Boot.«len» (zaa (dv 5) zac))) zac))))) (zae (zas (zan (zaI hr) (zag zbf (dv 7) zab) zab (zam _)) (zaf (zal (i:=8) zbo.nd rfl (Or.inl rfl) (zaB (zaa za9 (zaa (zad (dv 8) zab (λ_ _=>rfl)) (zaa (zad (dv 8) zab (λ_ _=>rfl)) zac)))))) zau) (zae (zas (zan (zaI hr) (zag zbf (dv 7) zab) zab (zam _)) (zaf (zal (i:=8) zbo.nd rfl (Or.inl rfl) (zaB (zaa za9 (zaa (zad (dv 8) zab (λ_ _=>rfl)) (zaa (zag za5 zab (zag zbf (zag zbq (dv 7) zab) zab)) zac)))))) zau) (zae (zal (i:=9) zbo.nd rfl (Or.inl rfl) (zaq zkq hr (zaa (dv 8) (zaa (dv 5) (zaa (dv 4) (zaa (dv 2) (zaa (zag zbq (dv 7) zab) zac))))))) (zae (zal (i:=10) zbo.nd rfl (Or.inl rfl) (zaq zkR hr (zaa (dv 8) (zaa (dv 5) (zaa (dv 9) (zaa (dv 2) zac)))))) (zae (zal (i:=11) zbo.nd rfl (Or.inl rfl) (zaq zlv hr (zaa (dv 8) (zaa (zfE (zaI hr) (zag zbf (zag za5 (zag zbq (dv 7) zab) (dv 6)) zab) zab (zam _)) zac)))) (zae (zal (i:=12) zbo.nd rfl (Or.inl rfl) (zm8 (zbj zmh) rfl zbH Boot.«list» (zaa (dv 5) zac))) (zaf (zas (PDW.pt (zca (zdh (zcP (zaq zk2 hr (zaa (zqS (dv 11) (zeN zap.cl zlg (hr.mono (by decide)) (zeN zar.cl zkC (hr.mono (by decide)) (zeN zai.cl zla (hr.mono (by decide)) (zeN zah.cl zlp (hr.mono (by decide)) (zeN zaj.cl zlB (hr.mono (by decide)) (zeN zao.cl zkx (hr.mono (by decide)) zqI)))))) zcw (zaa (dv 12) (zaa (dv 9) (zaa (dv 2) zac)))) (zaa (dv 10) zac))))) (zcM (zan (zsH hr) (dv 12) (dv 5) (zam _))))) (zaf (zak zdk)) zau))))))))))) (zaf (zak zdk)))))))),λds S Q ex h=>by
  obtain⟨ns,rfl,rfl,hl,h⟩:=h
  have disp:∀v:Nd,∃C fs sd,v.ob zap.C zar.C zai.C zah.C zaj.C zao.C=.ins C fs∧(C,sd)∈[(zap.C,zeK zap.C zar.C zai.C zah.C zaj.C zao.C),(zar.C,zd5 zap.C zar.C zai.C zah.C zaj.C zao.C),(zai.C,zd3 zap.C zar.C zai.C zah.C zaj.C zao.C),(zah.C,zdM zap.C zar.C zai.C zah.C zaj.C zao.C),(zaj.C,zeE zap.C zar.C zai.C zah.C zaj.C zao.C),(zao.C,zeA zap.C zar.C zai.C zah.C zaj.C zao.C)]∧fs.lookup ("back":Str)=none∧∀(n w:Nat) (z:Int×Int) (g q:Int) (S:Sto) (Q:DK) (ex:Addr→Sto→Prop) (vs:List (Int×Int)),S[n]?=some (v.ob zap.C zar.C zai.C zah.C zaj.C zao.C)→S[w]?=some (.lst (vs.map frD))→v.ok vs.length q→Spn 1000 vs→(z.1≤z.2∧Sz 1000 z.1∧Sz 1000 z.2)→(1≤g∧g≤1000000)→(v.bk vs z g=none→Q .non S)→(∀l,v.bk vs z g=some l→Q (.ref S.length) (S++[.lst (l.map ptD)]))→sd [.ref n,.ref w,frD z,.int g] S Q ex:=by
   intro v
   cases v with
   | number x y=>exact⟨_,_,_,rfl,(.head _),rfl,λn w z g q S Q ex vs a1 a2 a3 a4 a5 a6 q1 q2=>⟨x,y,vs,q,a1,a2,a3,a4,a5,a6,q1,q2⟩⟩
   | unknown k=>exact⟨_,_,_,rfl,(.tail _ (.head _)),rfl,λn w z g q S Q ex vs a1 a2 a3 a4 a5 a6 q1 q2=>⟨k,vs,q,a1,a2,a3,a4,a5,a6,q1,q2⟩⟩
   | plus i j=>exact⟨_,_,_,rfl,(.tail _ (.tail _ (.head _))),rfl,λn w z g q S Q ex vs a1 a2 a3 a4 a5 a6 q1 q2=>⟨i,j,vs,q,a1,a2,a3,a4,a5,a6,q1,q2⟩⟩
   | minus i j=>exact⟨_,_,_,rfl,(.tail _ (.tail _ (.tail _ (.head _)))),rfl,λn w z g q S Q ex vs a1 a2 a3 a4 a5 a6 q1 q2=>⟨i,j,vs,q,a1,a2,a3,a4,a5,a6,q1,q2⟩⟩
   | times i j=>exact⟨_,_,_,rfl,(.tail _ (.tail _ (.tail _ (.tail _ (.head _))))),rfl,λn w z g q S Q ex vs a1 a2 a3 a4 a5 a6 q1 q2=>⟨i,j,vs,q,a1,a2,a3,a4,a5,a6,q1,q2⟩⟩
   | power i m=>exact⟨_,_,_,rfl,(.tail _ (.tail _ (.tail _ (.tail _ (.tail _ (.head _)))))),rfl,λn w z g q S Q ex vs a1 a2 a3 a4 a5 a6 q1 q2=>⟨i,m,vs,q,a1,a2,a3,a4,a5,a6,q1,q2⟩⟩
  have F0:(([.frz (ns.map D.int)]:Sto))[0]?=some (.frz (ns.map D.int)):=rfl
  refine zs0 (n:=0) (o:=.frz (ns.map D.int)) (lo:=some 6) (hi:=some 62) (S3:=[.frz (ns.map D.int)]) (λK hK=>by exact hK) (λK hK=>by exact hK) (λK hK=>by exact hK) F0 ?_
  have cl:(zbg (ns.map D.int) (some 6) (some 62)).length≤63:=by
   have z:=zrO (α:=Nat) (xs:=ns.map D.int) (lo:=some 6) (hi:=some 62)
   rw[Vab] at z
   omega
  have ci:∀(k:Nat) (x:D),(zbg (ns.map D.int) (some 6) (some 62))[k]?=some x→∃c:Int,x=.int c:=λk x hx=>zsE hx
  refine⟨ns,rfl,by decide,?_⟩
  intro g hg g2
  refine⟨ns,rfl,by decide,?_⟩
  have dr:∀a b:Int,a≤b→a.natAbs≤10^15→b.natAbs≤10^15→∃p:Int×Int,(D.tup [.int a,.int b])=frD p∧(p.1≤p.2∧Sz 51 p.1∧Sz 51 p.2):=λa b h1 h2 h3=>⟨(a,b),rfl,h1,(Sz.of (n:=51) (10^15) h2),(Sz.of (n:=51) (10^15) h3)⟩
  refine znX (j:=1+ns.getD (1:Int).toNat 0%4) (S1:=[.frz (ns.map D.int),.lst (zbg (ns.map D.int) (some 6) (some 62))]) (λ_ d=>∃p,d=frD p∧(p.1≤p.2∧Sz 51 p.1∧Sz 51 p.2)) (λK hK=>by exact hK) ⟨by omega,by omega⟩ (λk hk S2 K pr hK=>?_) (λxs lx hx=>?_)
  ·refine⟨ns,zrt pr rfl,show (0:Int)≤2+(k:Int) by omega,?_⟩
   exact λt b h1 h2 h3=>hK _ (dr t b h1 h2 h3)
  obtain⟨ps,rfl,gp⟩:=zkL xs hx
  rw[Vab] at lx
  refine zni (n:=1) (o:=.lst (zbg (ns.map D.int) (some 6) (some 62))) (S1:=[.frz (ns.map D.int),.lst (zbg (ns.map D.int) (some 6) (some 62)),.lst (ps.map frD),.lst [frD (-3,5)]]) (λ_ d=>∃p,d=frD p∧(p.1≤p.2∧Sz 51 p.1∧Sz 51 p.2)) (λK hK=>by exact hK) rfl (Vas cl (by decide)) (λk x hx S2 K pr hK=>?_) (λxs lxs hxs=>?_)
  ·obtain⟨c,rfl⟩:=ci k x hx
   have r0:=zbZ (a:=c) (b:=10^Int.toNat 40) (by decide)
   have e40:(10:Int)^Int.toNat 40=10^40:=rfl
   refine⟨show (0:Int)<10^Int.toNat 40 by decide,zaD (m:=220) (n:=6) (Sz.of (10^40) (by omega)) (by unfold Sz; decide),?_⟩
   exact λt b h1 h2 h3=>hK _ (dr t b h1 h2 h3)
  obtain⟨ws,rfl,gw⟩:=zkL xs hxs
  rw[Vab] at lxs
  replace lxs:ws.length≤63:=by rw[lxs]; exact cl
  refine zph (n:=3) (m:=4) (xs:=[frD (-3,5)]) (ys:=ws.map frD) rfl rfl (by rw[Vab]; simp; omega) ?_
  refine zdD (n:=1) (xs:=zbg (ns.map D.int) (some 6) (some 62)) rfl ?_
  have gv:Spn 51 ((-3,5)::ws):=λp hp=>by
   rcases Vae.mp hp with e | e
   ·subst e; exact⟨by decide,by unfold Sz; decide,by unfold Sz; decide⟩
   ·exact gw p e
  refine⟨⟨by omega,by omega⟩,λk dl' S'=>(∃u6 u7 u8 u9 u10 u11 u12:Option D,dl'=[some (.ref 0),some (.ref 1),some (.int g),some (.int (1+ns.getD (1:Int).toNat 0%4)),some (.ref 2),some (.ref 5),u6,u7,u8,u9,u10,u11,u12])∧S'[1]?=some (.lst (zbg (ns.map D.int) (some 6) (some 62)))∧S'[2]?=some (.lst (ps.map frD))∧S'[5]?=some (.lst (((-3,5)::ws).map frD)),⟨⟨_,_,_,_,_,_,_,rfl⟩,rfl,rfl,rfl⟩,?_⟩
  rintro k dl' T ⟨⟨u6,u7,u8,u9,u10,u11,u12,rfl⟩,T1,T2,T5⟩
  generalize hvs:(-3,5)::ws=vs at T5 gv
  have lv:vs.length≤64:=by rw[← hvs]; simp; omega
  have lv0:1≤vs.length:=by rw[← hvs]; simp
  refine zfc (λkc=>?_) (λ_=>h _)
  have kc':k<(zbg (ns.map D.int) (some 6) (some 62)).length:=by
   have z:k<(((zbg (ns.map D.int) (some 6) (some 62)).length:Nat):Int).toNat:=kc
   omega
  have hk:=VaB kc'
  obtain⟨c,hc⟩:=ci k _ hk
  rw[hc] at hk
  have ek:=zeh hk
  have epl:(1+ns.getD (Int.toNat 1) 0%4)=((ps.length:Nat):Int):=by omega
  refine zaJ (o:=.lst (zbg (ns.map D.int) (some 6) (some 62))) T1 ek ?_
  refine⟨show (0:Int)<10^Int.toNat 40 by decide,?_⟩
  have e40:(10:Int)^Int.toNat 40=10000000000000000000000000000000000000000:=rfl
  have r0:=zbZ (a:=c) (b:=10^Int.toNat 40) (by decide)
  have s0:Sz 140 (c%10^Int.toNat 40):=Sz.of (10^40) (by omega)
  have mo:=zaD (m:=140) (n:=17) s0 (j:=48271) (by unfold Sz; decide)
  have pl:(0:Int)<((vs.length:Nat):Int):=by omega
  dsimp only
  refine zmK (λdl2 S2=>T=S2∧∃v:Nd,((∃i j,v=Nd.times i j)∨∃i n,v=Nd.power i n)∧v.ok vs.length ps.length∧dl2=[some (.ref 0),some (.ref 1),some (.int g),some (.int (1+ns.getD (1:Int).toNat 0%4)),some (.ref 2),some (.ref 5),some (.int (k:Int)),some (.int (c%10^Int.toNat 40)),some v.d,u9,u10,u11,u12]) (λnx hn=>?_) ?_
  ·refine zdD T5 ?_
   rw[Vab]
   refine⟨pl,mo,show (0:Int)<2147483647 by decide,?_⟩
   refine zdD T5 ?_
   rw[Vab]
   refine⟨pl,?_⟩
   have ri:inR ((vs.length:Nat):Int) (c%10^Int.toNat 40/2%((vs.length:Nat):Int)):=zbZ pl
   have rj:inR ((vs.length:Nat):Int) (c%10^Int.toNat 40*48271%2147483647%((vs.length:Nat):Int)):=zbZ pl
   have r5:=zbZ (a:=c%10^Int.toNat 40/2) (b:=5) (by decide)
   refine ifD (λe1=>?_) (λe1=>?_)
   ·refine ifD (λe2=>?_) (λe2=>?_)
    ·exact hn _ _ ⟨rfl,.power _ _,.inr ⟨_,_,rfl⟩,⟨ri,by omega,by omega⟩,rfl⟩
    ·exact hn _ _ ⟨rfl,.times _ _,.inl ⟨_,_,rfl⟩,⟨ri,ri⟩,rfl⟩
   ·refine ifD (λe2=>?_) (λe2=>?_)
    ·exact hn _ _ ⟨rfl,.power _ _,.inr ⟨_,_,rfl⟩,⟨ri,by omega,by omega⟩,rfl⟩
    ·exact hn _ _ ⟨rfl,.times _ _,.inl ⟨_,_,rfl⟩,⟨ri,rj⟩,rfl⟩
  rintro dl2 S2 ⟨rfl,v,hv,ok,rfl⟩
  have gv3:Spn 1000 vs:=gv.mono (by decide)
  refine zkz (λdl2 S2=>Pre T S2∧∃(z:Int×Int) (r:D),(z.1≤z.2∧Sz 1000 z.1∧Sz 1000 z.2)∧((v.bk vs z g=none∧r=.non)∨∃l m,v.bk vs z g=some l∧r=.ref m∧S2[m]?=some (.lst (l.map ptD)))∧dl2=[some (.ref 0),some (.ref 1),some (.int g),some (.int (1+ns.getD (1:Int).toNat 0%4)),some (.ref 2),some (.ref 5),some (.int (k:Int)),some (.int (c%10^Int.toNat 40)),some v.d,some (frD z),some r,u11,u12]) (λnx hn=>?_) ?_
  ·refine⟨v,vs,ps,rfl,T5,T2,ok,gv,gp,⟨hg,g2⟩,λz0 z1 hz sa sb=>?_⟩
   have hzz:z0≤z1∧Sz 1000 z0∧Sz 1000 z1:=⟨hz,sa.mono (by decide),sb.mono (by decide)⟩
   exact⟨v,vs,ps.length,hv,rfl,T5,ok,gv3,hzz,⟨hg,g2⟩,λe T9 pr=>hn _ _ ⟨pr,(z0,z1),.non,hzz,.inl ⟨e,rfl⟩,rfl⟩,λl e T9 m9 pr hm=>hn _ _ ⟨pr,(z0,z1),.ref m9,hzz,.inr ⟨l,m9,e,rfl,hm⟩,rfl⟩⟩
  rintro dl2 S2 ⟨pr,z,r,hzz,hr,rfl⟩
  obtain⟨C,fs,sd,eo,hm,hf,go⟩:=disp v
  refine⟨v,rfl,?_⟩
  refine zfS (za8 (zay (pr _ _ T5)) rfl) ?_
  have V1:=zay (T:=[.lst (vs.map frD)]) (zaC S2 (v.ob zap.C zar.C zai.C zah.C zaj.C zao.C))
  have W5:=zaC (S2++[v.ob zap.C zar.C zai.C zah.C zaj.C zao.C]) (.lst (vs.map frD))
  refine zqn (n:=S2.length) (C:=C) (sd:=sd) (fs:=fs) (λK hK=>by exact hK) (by rw[← eo]; exact V1) hm hf ?_
  refine go _ _ z _ ps.length _ _ _ vs V1 W5 ok gv3 hzz ⟨hg,g2⟩ (λe=>?_) (λl e=>?_)
  ·rcases hr with ⟨_,rfl⟩ | ⟨l,m,es,_⟩
   ·refine zmX (k:=1) (b:=true) (za8 W5 rfl) (za8 (zay (zay (pr _ _ T5))) rfl) (zlf vs) ?_
    exact⟨⟨_,_,_,_,_,_,_,rfl⟩,zay (zay (pr _ _ T1)),zay (zay (pr _ _ T2)),zay (zay (pr _ _ T5))⟩
   ·exact absurd (es.symm.trans e) (by simp)
  ·rcases hr with ⟨en,rfl⟩ | ⟨l',m,es,rfl,hm9⟩
   ·exact absurd (en.symm.trans e) (by simp)
   ·cases (es.symm.trans e)
    have P:=v.bk_pts gv3 hzz.1 hg l ok e
    refine⟨l,zaC _ _,zay (zay (zay hm9)),λq hq=>(P.2 q hq).2.1,by have:=P.1; omega,?_⟩
    refine zmX (k:=1) (b:=true) (za8 (zay W5) rfl) (za8 (zay (zay (zay (pr _ _ T5)))) rfl) (zlf vs) ?_
    exact⟨⟨_,_,_,_,_,_,_,rfl⟩,zay (zay (zay (pr _ _ T1))),zay (zay (zay (pr _ _ T2))),zay (zay (zay (pr _ _ T5)))⟩⟩)
end
theorem zs5 {l:PySem.W.OpenLaw}{w:World}{K:PySem.W.Frag}{h:Heap}{mg:Str→Option Value}{fa:Addr}(X:K.In h)(G:h.Ns mainGlobals mg)(hfa:mg "law"=some (.ref fa))
  {zbv:Addr}(zg9:PySem.W.nsIn K mainGlobals "Times"=some (some (.ref zbv)))(zhf:PySem.W.plainGet K zbv Str.empty=true)(zgU:PySem.W.hasDictIn K zbv=true)(zic:PySem.W.plainOver K zbv=true)(zhT:PySem.W.findIn K (.ref zbv) "__setattr__"=some (some (.builtin "object.__setattr__")))(zjF:PySem.W.makesIn K zbv=true)(zhl:PySem.W.keepIn K (.ref zbv)=true)
  (zhN:PySem.W.findIn K (.ref zbv) "other"=some none)
  (zhE:PySem.W.findIn K (.ref zbv) "one"=some none)
  {zbX:Addr}(zjg:PySem.W.nsIn K mainGlobals "Power"=some (some (.ref zbX)))(zih:PySem.W.plainGet K zbX Str.empty=true)(zi1:PySem.W.hasDictIn K zbX=true)(zjI:PySem.W.plainOver K zbX=true)(zjr:PySem.W.findIn K (.ref zbX) "__setattr__"=some (some (.builtin "object.__setattr__")))(zjo:PySem.W.makesIn K zbX=true)(zgZ:PySem.W.keepIn K (.ref zbX)=true)
  (zjD:PySem.W.findIn K (.ref zbX) "many"=some none)
  (zjU:PySem.W.findIn K (.ref zbX) "one"=some none)
  {zbR:Addr}(zgF:PySem.W.nsIn K mainGlobals "Number"=some (some (.ref zbR)))(zj1:PySem.W.plainGet K zbR Str.empty=true)(zj8:PySem.W.hasDictIn K zbR=true)(zha:PySem.W.plainOver K zbR=true)(zi5:PySem.W.findIn K (.ref zbR) "__setattr__"=some (some (.builtin "object.__setattr__")))(ziv:PySem.W.makesIn K zbR=true)(zio:PySem.W.keepIn K (.ref zbR)=true)
  (zjK:PySem.W.findIn K (.ref zbR) "bottom"=some none)
  (zgV:PySem.W.findIn K (.ref zbR) "top"=some none)
  {zb7:Addr}(zhI:PySem.W.nsIn K mainGlobals "Unknown"=some (some (.ref zb7)))(zg3:PySem.W.plainGet K zb7 Str.empty=true)(zjf:PySem.W.hasDictIn K zb7=true)(zhO:PySem.W.plainOver K zb7=true)(zhe:PySem.W.findIn K (.ref zb7) "__setattr__"=some (some (.builtin "object.__setattr__")))(zjT:PySem.W.makesIn K zb7=true)(zhA:PySem.W.keepIn K (.ref zb7)=true)
  (ziQ:PySem.W.findIn K (.ref zb7) "place"=some none)
  {zbz:Addr}(zgI:PySem.W.nsIn K mainGlobals "Plus"=some (some (.ref zbz)))(zkk:PySem.W.plainGet K zbz Str.empty=true)(zgR:PySem.W.hasDictIn K zbz=true)(zhJ:PySem.W.plainOver K zbz=true)(zgW:PySem.W.findIn K (.ref zbz) "__setattr__"=some (some (.builtin "object.__setattr__")))(ziO:PySem.W.makesIn K zbz=true)(zis:PySem.W.keepIn K (.ref zbz)=true)
  (zjv:PySem.W.findIn K (.ref zbz) "other"=some none)
  (zgS:PySem.W.findIn K (.ref zbz) "one"=some none)
  {zbG:Addr}(zka:PySem.W.nsIn K mainGlobals "Minus"=some (some (.ref zbG)))(zhi:PySem.W.plainGet K zbG Str.empty=true)(zhv:PySem.W.hasDictIn K zbG=true)(zhc:PySem.W.plainOver K zbG=true)(zhg:PySem.W.findIn K (.ref zbG) "__setattr__"=some (some (.builtin "object.__setattr__")))(zhX:PySem.W.makesIn K zbG=true)(zhM:PySem.W.keepIn K (.ref zbG)=true)
  (zjA:PySem.W.findIn K (.ref zbG) "other"=some none)
  (ziV:PySem.W.findIn K (.ref zbG) "one"=some none)
  {f0 h0:Addr}{m0:Value}(a0:nsA K "_law_grid" f0)(l0:lkA K f0 "_law_grid" "_law_grid" ziI m0 h0)(c0:cdA K h0 "_law_grid")
  {f1 h1:Addr}{m1:Value}(a1:nsA K "_law_cell" f1)(l1:lkA K f1 "_law_cell" "_law_cell" ziS m1 h1)(c1:cdA K h1 "_law_cell")
  {f2 h2:Addr}{m2:Value}(a2:nsA K "_law_span" f2)(l2:lkA K f2 "_law_span" "_law_span" zhq m2 h2)(c2:cdA K h2 "_law_span")
  {f3 h3:Addr}{m3:Value}(a3:nsA K "_law_power" f3)(l3:lkA K f3 "_law_power" "_law_power" zgD m3 h3)(c3:cdA K h3 "_law_power")
  {f4 h4:Addr}{m4:Value}(a4:nsA K "_law_forth" f4)(l4:lkA K f4 "_law_forth" "_law_forth" ziH m4 h4)(c4:cdA K h4 "_law_forth")
  {f5 h5:Addr}{m5:Value}(a5:nsA K "_law_here" f5)(l5:lkA K f5 "_law_here" "_law_here" zh9 m5 h5)(c5:cdA K h5 "_law_here")
  {f6 h6:Addr}{m6:Value}(a6:nsA K "_law_hulled" f6)(l6:lkA K f6 "_law_hulled" "_law_hulled" zdK m6 h6)(c6:cdA K h6 "_law_hulled")
  {f7 h7:Addr}{m7:Value}(a7:nsA K "_law_kept" f7)(l7:lkA K f7 "_law_kept" "_law_kept" zhy m7 h7)(c7:cdA K h7 "_law_kept")
  {f8 h8:Addr}{m8:Value}(a8:nsA K "_law_pieces" f8)(l8:lkA K f8 "_law_pieces" "_law_pieces" zkh m8 h8)(c8:cdA K h8 "_law_pieces")
  {f9 h9:Addr}{m9:Value}(a9:nsA K "_law_quot" f9)(l9:lkA K f9 "_law_quot" "_law_quot" zfy m9 h9)(c9:cdA K h9 "_law_quot")
  {f10 h10:Addr}{m10:Value}(a10:nsA K "_law_root" f10)(l10:lkA K f10 "_law_root" "_law_root" zjJ m10 h10)(c10:cdA K h10 "_law_root")
  {f11 h11:Addr}{m11:Value}(a11:nsA K "_law_down" f11)(l11:lkA K f11 "_law_down" "_law_down" zj5 m11 h11)(c11:cdA K h11 "_law_down")
  {f12 h12:Addr}{m12:Value}(a12:nsA K "_law_root_kept" f12)(l12:lkA K f12 "_law_root_kept" "_law_root_kept" zhw m12 h12)(c12:cdA K h12 "_law_root_kept")
  {f13 h13:Addr}{m13:Value}(a13:nsA K "_law_rooted" f13)(l13:lkA K f13 "_law_rooted" "_law_rooted" zg7 m13 h13)(c13:cdA K h13 "_law_rooted")
  {f14 h14:Addr}{m14:Value}(a14:nsA K "_law_back_part" f14)(l14:lkA K f14 "_law_back_part" "_law_back_part" zkf m14 h14)(c14:cdA K h14 "_law_back_part")
  {f15 h15:Addr}{m15:Value}(a15:fdA K zbv "__init__" f15)(l15:lkA K f15 "__init__" "Pair.__init__" zi2 m15 h15)(c15:cdA K h15 "Pair.__init__")
  {f16 h16:Addr}{m16:Value}(a16:fdA K zbX "__init__" f16)(l16:lkA K f16 "__init__" "Power.__init__" zi0 m16 h16)(c16:cdA K h16 "Power.__init__")
  {f17 h17:Addr}{m17:Value}(a17:fdA K zbR "__init__" f17)(l17:lkA K f17 "__init__" "Number.__init__" zjB m17 h17)(c17:cdA K h17 "Number.__init__")
  {f18 h18:Addr}{m18:Value}(a18:fdA K zb7 "__init__" f18)(l18:lkA K f18 "__init__" "Unknown.__init__" zkc m18 h18)(c18:cdA K h18 "Unknown.__init__")
  {f19 h19:Addr}{m19:Value}(a19:fdA K zbz "__init__" f19)(l19:lkA K f19 "__init__" "Pair.__init__" zjt m19 h19)(c19:cdA K h19 "Pair.__init__")
  {f20 h20:Addr}{m20:Value}(a20:fdA K zbG "__init__" f20)(l20:lkA K f20 "__init__" "Pair.__init__" ziN m20 h20)(c20:cdA K h20 "Pair.__init__")
  {f21 h21:Addr}{m21:Value}(a21:nsA K "kind_of" f21)(l21:lkA K f21 "kind_of" "kind_of" zhz m21 h21)(c21:cdA K h21 "kind_of")
  {f22 h22:Addr}{m22:Value}(a22:nsA K "_law_made" f22)(l22:lkA K f22 "_law_made" "_law_made" zj9 m22 h22)(c22:cdA K h22 "_law_made")
  {f23 h23:Addr}{m23:Value}(a23:nsA K "_law_whole" f23)(l23:lkA K f23 "_law_whole" "_law_whole" zgx m23 h23)(c23:cdA K h23 "_law_whole")
  {f24 h24:Addr}{m24:Value}(a24:nsA K "_law_span_is" f24)(l24:lkA K f24 "_law_span_is" "_law_span_is" ziK m24 h24)(c24:cdA K h24 "_law_span_is")
  {f25 h25:Addr}{m25:Value}(a25:nsA K "_law_parts_are" f25)(l25:lkA K f25 "_law_parts_are" "_law_parts_are" zi6 m25 h25)(c25:cdA K h25 "_law_parts_are")
  {f26 h26:Addr}{m26:Value}(a26:fdA K zbR "back" f26)(l26:lkA K f26 "back" "Number.back" zgN m26 h26)(c26:cdA K h26 "Number.back")
  {f27 h27:Addr}{m27:Value}(a27:fdA K zb7 "back" f27)(l27:lkA K f27 "back" "Unknown.back" zjY m27 h27)(c27:cdA K h27 "Unknown.back")
  {f28 h28:Addr}{m28:Value}(a28:nsA K "common" f28)(l28:lkA K f28 "common" "common" zg5 m28 h28)(c28:cdA K h28 "common")
  {f29 h29:Addr}{m29:Value}(a29:nsA K "take_spans" f29)(l29:lkA K f29 "take_spans" "take_spans" zj7 m29 h29)(c29:cdA K h29 "take_spans")
  {f30 h30:Addr}{m30:Value}(a30:fdA K zbz "first_left" f30)(l30:lkA K f30 "first_left" "Plus.first_left" zje m30 h30)(c30:cdA K h30 "Plus.first_left")
  {f31 h31:Addr}{m31:Value}(a31:fdA K zbz "second_left" f31)(l31:lkA K f31 "second_left" "Plus.second_left" ziR m31 h31)(c31:cdA K h31 "Plus.second_left")
  {f32 h32:Addr}{m32:Value}(a32:fdA K zbz "back" f32)(l32:lkA K f32 "back" "Pair.back" zkg m32 h32)(c32:cdA K h32 "Pair.back")
  {f33 h33:Addr}{m33:Value}(a33:nsA K "add_spans" f33)(l33:lkA K f33 "add_spans" "add_spans" zil m33 h33)(c33:cdA K h33 "add_spans")
  {f34 h34:Addr}{m34:Value}(a34:fdA K zbG "first_left" f34)(l34:lkA K f34 "first_left" "Minus.first_left" zir m34 h34)(c34:cdA K h34 "Minus.first_left")
  {f35 h35:Addr}{m35:Value}(a35:fdA K zbG "second_left" f35)(l35:lkA K f35 "second_left" "Minus.second_left" zgy m35 h35)(c35:cdA K h35 "Minus.second_left")
  {f36 h36:Addr}{m36:Value}(a36:fdA K zbG "back" f36)(l36:lkA K f36 "back" "Pair.back" zi3 m36 h36)(c36:cdA K h36 "Pair.back")
  {f37 h37:Addr}{m37:Value}(a37:nsA K "holds_nought" f37)(l37:lkA K f37 "holds_nought" "holds_nought" zj3 m37 h37)(c37:cdA K h37 "holds_nought")
  {f38 h38:Addr}{m38:Value}(a38:nsA K "part_between" f38)(l38:lkA K f38 "part_between" "part_between" zki m38 h38)(c38:cdA K h38 "part_between")
  {f39 h39:Addr}{m39:Value}(a39:nsA K "rounded_up" f39)(l39:lkA K f39 "rounded_up" "rounded_up" zgY m39 h39)(c39:cdA K h39 "rounded_up")
  {f40 h40:Addr}{m40:Value}(a40:nsA K "quotient" f40)(l40:lkA K f40 "quotient" "quotient" zjN m40 h40)(c40:cdA K h40 "quotient")
  {f41 h41:Addr}{m41:Value}(a41:nsA K "back_by_side" f41)(l41:lkA K f41 "back_by_side" "back_by_side" zid m41 h41)(c41:cdA K h41 "back_by_side")
  {f42 h42:Addr}{m42:Value}(a42:nsA K "hull" f42)(l42:lkA K f42 "hull" "hull" ziu m42 h42)(c42:cdA K h42 "hull")
  {f43 h43:Addr}{m43:Value}(a43:nsA K "joined" f43)(l43:lkA K f43 "joined" "joined" zjy m43 h43)(c43:cdA K h43 "joined")
  {f44 h44:Addr}{m44:Value}(a44:nsA K "opposite" f44)(l44:lkA K f44 "opposite" "opposite" zja m44 h44)(c44:cdA K h44 "opposite")
  {f45 h45:Addr}{m45:Value}(a45:nsA K "back_times" f45)(l45:lkA K f45 "back_times" "back_times" zjE m45 h45)(c45:cdA K h45 "back_times")
  {f46 h46:Addr}{m46:Value}(a46:fdA K zbv "first_left" f46)(l46:lkA K f46 "first_left" "Times.first_left" zhu m46 h46)(c46:cdA K h46 "Times.first_left")
  {f47 h47:Addr}{m47:Value}(a47:fdA K zbv "second_left" f47)(l47:lkA K f47 "second_left" "Times.second_left" zhV m47 h47)(c47:cdA K h47 "Times.second_left")
  {f48 h48:Addr}{m48:Value}(a48:fdA K zbv "back" f48)(l48:lkA K f48 "back" "Pair.back" ziP m48 h48)(c48:cdA K h48 "Pair.back")
  {f49 h49:Addr}{m49:Value}(a49:nsA K "raised" f49)(l49:lkA K f49 "raised" "raised" zhj m49 h49)(c49:cdA K h49 "raised")
  {f50 h50:Addr}{m50:Value}(a50:nsA K "next_guess" f50)(l50:lkA K f50 "next_guess" "next_guess" ziy m50 h50)(c50:cdA K h50 "next_guess")
  {f51 h51:Addr}{m51:Value}(a51:nsA K "root_below" f51)(l51:lkA K f51 "root_below" "root_below" zjc m51 h51)(c51:cdA K h51 "root_below")
  {f52 h52:Addr}{m52:Value}(a52:nsA K "root" f52)(l52:lkA K f52 "root" "root" zfM m52 h52)(c52:cdA K h52 "root")
  {f53 h53:Addr}{m53:Value}(a53:nsA K "back_power" f53)(l53:lkA K f53 "back_power" "back_power" zib m53 h53)(c53:cdA K h53 "back_power")
  {f54 h54:Addr}{m54:Value}(a54:fdA K zbX "back" f54)(l54:lkA K f54 "back" "Power.back" zjV m54 h54)(c54:cdA K h54 "Power.back")
  {f55 h55:Addr}{m55:Value}(a55:nsA K "law" f55)(l55:lkA K f55 "law" "law" zcO m55 h55)(c55:cdA K h55 "law")
  (za2:PySem.W.nsIn K mainGlobals "len"=some none)
  (zaX:PySem.W.nsIn K mainGlobals "min"=some none)
  (zbh:PySem.W.nsIn K mainGlobals "range"=some none)
  (zaG:PySem.W.nsIn K mainGlobals "max"=some none)
  (zbH:PySem.W.nsIn K mainGlobals "list"=some none)
  (zbt:PySem.W.nsIn K mainGlobals "abs"=some none)
  (zbk:PySem.W.nsIn K mainGlobals "isinstance"=some none)
  (zcZ:PySem.W.nsIn K mainGlobals "bool"=some none)
  (zc1:PySem.W.nsIn K mainGlobals "int"=some none)
  (zcf:PySem.W.nsIn K mainGlobals "tuple"=some none)
  (zdY:Kit K "bool")
  (zek:Kit K "int")
  (zcL:Kit K "tuple")
  :∃fd:FuncData,(∀(s:Shared) (v:Value),BindsTo s fd ⟨[v],[]⟩ [("_law_script",v)])∧∀base:Heap,K.In base→base.Ns mainGlobals mg→zaZ l.prog w K mg base (CXE l.prog w) 8 fa fd ["_law_script"] (upF K zeR):=by
 have e:=hfa.symm.trans (PySem.W.mg_of X G a55)
 cases e
 let zaj:zbN K mg:=⟨zbv,PySem.W.mg_of X G zg9,⟨zhf,zgU,zic,zhT⟩,zhN,zhE,zjF,zhl⟩
 let zao:zck K mg:=⟨zbX,PySem.W.mg_of X G zjg,⟨zih,zi1,zjI,zjr⟩,zjD,zjU,zjo,zgZ⟩
 let zap:zcn K mg:=⟨zbR,PySem.W.mg_of X G zgF,⟨zj1,zj8,zha,zi5⟩,zjK,zgV,ziv,zio⟩
 let zar:zci K mg:=⟨zb7,PySem.W.mg_of X G zhI,⟨zg3,zjf,zhO,zhe⟩,ziQ,zjT,zhA⟩
 let zai:zbO K mg:=⟨zbz,PySem.W.mg_of X G zgI,⟨zkk,zgR,zhJ,zgW⟩,zjv,zgS,ziO,zis⟩
 let zah:zbK K mg:=⟨zbG,PySem.W.mg_of X G zka,⟨zhi,zhv,zhc,zhg⟩,zjA,ziV,zhX,zhM⟩
 let ziB:Df K mg "_law_grid" ziI zfs:=dfo X G a0 l0 c0 λ_ _ _ _ _ _=>ln1 λ_=>rfl
 let zju:Df K mg "_law_cell" ziS zfp:=dfo X G a1 l1 c1 λ_ _ _ _ _ _=>ln2 λ_ _=>rfl
 let zgP:Df K mg "_law_span" zhq zdR:=dfo X G a2 l2 c2 λ_ _ _ _ _ _=>ln1 λ_=>rfl
 let zji:Df K mg "_law_power" zgD zdb:=dfo X G a3 l3 c3 λ_ _ _ _ _ _=>ln2 λ_ _=>rfl
 let ziC:Df K mg "_law_forth" ziH zfd:=dfo X G a4 l4 c4 λ_ _ _ _ _ _=>ln4 λ_ _ _ _=>rfl
 let zh8:Df K mg "_law_here" zh9 zfr:=dfo X G a5 l5 c5 λ_ _ _ _ _ _=>ln5 λ_ _ _ _ _=>rfl
 let ziL:Df K mg "_law_hulled" zdK zeD:=dfo X G a6 l6 c6 λ_ _ _ _ _ _=>ln1 λ_=>rfl
 let zim:Df K mg "_law_kept" zhy zfw:=dfo X G a7 l7 c7 λ_ _ _ _ _ _=>ln2 λ_ _=>rfl
 let zj4:Df K mg "_law_pieces" zkh zeX:=dfo X G a8 l8 c8 λ_ _ _ _ _ _=>ln3 λ_ _ _=>rfl
 let zhP:Df K mg "_law_quot" zfy zfh:=dfo X G a9 l9 c9 λ_ _ _ _ _ _=>ln4 λ_ _ _ _=>rfl
 let zhx:Df K mg "_law_root" zjJ zfA:=dfo X G a10 l10 c10 λ_ _ _ _ _ _=>ln3 λ_ _ _=>rfl
 let zgT:Df K mg "_law_down" zj5 zgb:=dfo X G a11 l11 c11 λ_ _ _ _ _ _=>ln3 λ_ _ _=>rfl
 let zhK:Df K mg "_law_root_kept" zhw zfJ:=dfo X G a12 l12 c12 λ_ _ _ _ _ _=>ln4 λ_ _ _ _=>rfl
 let zjh:Df K mg "_law_rooted" zg7 zgj:=dfo X G a13 l13 c13 λ_ _ _ _ _ _=>ln4 λ_ _ _ _=>rfl
 let zhm:Df K mg "_law_back_part" zkf zfW:=dfo X G a14 l14 c14 λ_ _ _ _ _ _=>ln4 λ_ _ _ _=>rfl
 let zjO:Dm K zaj.C "__init__" "Pair.__init__" zi2 zdP:=dmo a15 l15 c15 λ_ _ _ _ _ _=>ln3 λ_ _ _=>rfl
 let zke:Dm K zao.C "__init__" "Power.__init__" zi0 zet:=dmo a16 l16 c16 λ_ _ _ _ _ _=>ln3 λ_ _ _=>rfl
 let zjS:Dm K zap.C "__init__" "Number.__init__" zjB zej:=dmo a17 l17 c17 λ_ _ _ _ _ _=>ln3 λ_ _ _=>rfl
 let zjp:Dm K zar.C "__init__" "Unknown.__init__" zkc zdV:=dmo a18 l18 c18 λ_ _ _ _ _ _=>ln2 λ_ _=>rfl
 let zhW:Dm K zai.C "__init__" "Pair.__init__" zjt zdZ:=dmo a19 l19 c19 λ_ _ _ _ _ _=>ln3 λ_ _ _=>rfl
 let zii:Dm K zah.C "__init__" "Pair.__init__" ziN zeI:=dmo a20 l20 c20 λ_ _ _ _ _ _=>ln3 λ_ _ _=>rfl
 let ziG:Df K mg "kind_of" zhz zfG:=dfo X G a21 l21 c21 λ_ _ _ _ _ _=>ln1 λ_=>rfl
 let ziq:Df K mg "_law_made" zj9 zgk:=dfo X G a22 l22 c22 λ_ _ _ _ _ _=>ln2 λ_ _=>rfl
 let zg4:Df K mg "_law_whole" zgx zeH:=dfo X G a23 l23 c23 λ_ _ _ _ _ _=>ln1 λ_=>rfl
 let zj2:Df K mg "_law_span_is" ziK zfQ:=dfo X G a24 l24 c24 λ_ _ _ _ _ _=>ln1 λ_=>rfl
 let zhp:Df K mg "_law_parts_are" zi6 zeY:=dfo X G a25 l25 c25 λ_ _ _ _ _ _=>ln2 λ_ _=>rfl
 let zgz:Dm K zap.C "back" "Number.back" zgN zgu:=dmo a26 l26 c26 λ_ _ _ _ _ _=>ln4 λ_ _ _ _=>rfl
 let zh5:Dm K zar.C "back" "Unknown.back" zjY zfF:=dmo a27 l27 c27 λ_ _ _ _ _ _=>ln4 λ_ _ _ _=>rfl
 let zgL:Df K mg "common" zg5 zcW:=dfo X G a28 l28 c28 λ_ _ _ _ _ _=>ln2 λ_ _=>rfl
 let ziE:Df K mg "take_spans" zj7 zdo:=dfo X G a29 l29 c29 λ_ _ _ _ _ _=>ln2 λ_ _=>rfl
 let zgQ:Dm K zai.C "first_left" "Plus.first_left" zje zgw:=dmo a30 l30 c30 λ_ _ _ _ _ _=>ln5 λ_ _ _ _ _=>rfl
 let ziD:Dm K zai.C "second_left" "Plus.second_left" ziR zfx:=dmo a31 l31 c31 λ_ _ _ _ _ _=>ln5 λ_ _ _ _ _=>rfl
 let zh1:Dm K zai.C "back" "Pair.back" zkg zfu:=dmo a32 l32 c32 λ_ _ _ _ _ _=>ln4 λ_ _ _ _=>rfl
 let zh7:Df K mg "add_spans" zil ze5:=dfo X G a33 l33 c33 λ_ _ _ _ _ _=>ln2 λ_ _=>rfl
 let zg2:Dm K zah.C "first_left" "Minus.first_left" zir zfH:=dmo a34 l34 c34 λ_ _ _ _ _ _=>ln5 λ_ _ _ _ _=>rfl
 let zjC:Dm K zah.C "second_left" "Minus.second_left" zgy zeU:=dmo a35 l35 c35 λ_ _ _ _ _ _=>ln5 λ_ _ _ _ _=>rfl
 let ziz:Dm K zah.C "back" "Pair.back" zi3 zfm:=dmo a36 l36 c36 λ_ _ _ _ _ _=>ln4 λ_ _ _ _=>rfl
 let zkl:Df K mg "holds_nought" zj3 zge:=dfo X G a37 l37 c37 λ_ _ _ _ _ _=>ln1 λ_=>rfl
 let zin:Df K mg "part_between" zki zeL:=dfo X G a38 l38 c38 λ_ _ _ _ _ _=>ln3 λ_ _ _=>rfl
 let zjn:Df K mg "rounded_up" zgY zfX:=dfo X G a39 l39 c39 λ_ _ _ _ _ _=>ln2 λ_ _=>rfl
 let zjZ:Df K mg "quotient" zjN zgn:=dfo X G a40 l40 c40 λ_ _ _ _ _ _=>ln2 λ_ _=>rfl
 let ziA:Df K mg "back_by_side" zid zeV:=dfo X G a41 l41 c41 λ_ _ _ _ _ _=>ln3 λ_ _ _=>rfl
 let zix:Df K mg "hull" ziu ze3:=dfo X G a42 l42 c42 λ_ _ _ _ _ _=>ln2 λ_ _=>rfl
 let zhh:Df K mg "joined" zjy zes:=dfo X G a43 l43 c43 λ_ _ _ _ _ _=>ln2 λ_ _=>rfl
 let zg8:Df K mg "opposite" zja zde:=dfo X G a44 l44 c44 λ_ _ _ _ _ _=>ln1 λ_=>rfl
 let zhd:Df K mg "back_times" zjE zeM:=dfo X G a45 l45 c45 λ_ _ _ _ _ _=>ln4 λ_ _ _ _=>rfl
 let zi8:Dm K zaj.C "first_left" "Times.first_left" zhu zgh:=dmo a46 l46 c46 λ_ _ _ _ _ _=>ln5 λ_ _ _ _ _=>rfl
 let zjw:Dm K zaj.C "second_left" "Times.second_left" zhV zfC:=dmo a47 l47 c47 λ_ _ _ _ _ _=>ln5 λ_ _ _ _ _=>rfl
 let ziU:Dm K zaj.C "back" "Pair.back" ziP zfj:=dmo a48 l48 c48 λ_ _ _ _ _ _=>ln4 λ_ _ _ _=>rfl
 let zjj:Df K mg "raised" zhj zcU:=dfo X G a49 l49 c49 λ_ _ _ _ _ _=>ln2 λ_ _=>rfl
 let zjq:Df K mg "next_guess" ziy zf0:=dfo X G a50 l50 c50 λ_ _ _ _ _ _=>ln3 λ_ _ _=>rfl
 let zig:Df K mg "root_below" zjc zeG:=dfo X G a51 l51 c51 λ_ _ _ _ _ _=>ln2 λ_ _=>rfl
 let zcy:Df K mg "root" zfM zcI:=dfo X G a52 l52 c52 λ_ _ _ _ _ _=>ln2 λ_ _=>rfl
 let zhF:Df K mg "back_power" zib zgs:=dfo X G a53 l53 c53 λ_ _ _ _ _ _=>ln4 λ_ _ _ _=>rfl
 let zh4:Dm K zao.C "back" "Power.back" zjV zfT:=dmo a54 l54 c54 λ_ _ _ _ _ _=>ln4 λ_ _ _ _=>rfl
 let zij:Df K mg "law" zcO zit:=dfo X G a55 l55 c55 λ_ _ _ _ _ _=>ln1 λ_=>rfl
 have za2:=PySem.W.mg_none_of X G za2
 have zaX:=PySem.W.mg_none_of X G zaX
 have zbh:=PySem.W.mg_none_of X G zbh
 have zaG:=PySem.W.mg_none_of X G zaG
 have zbH:=PySem.W.mg_none_of X G zbH
 have zbt:=PySem.W.mg_none_of X G zbt
 have zbk:=PySem.W.mg_none_of X G zbk
 have zcZ:=PySem.W.mg_none_of X G zcZ
 have zc1:=PySem.W.mg_none_of X G zc1
 have zcf:=PySem.W.mg_none_of X G zcf
 refine⟨PySem.W.fnOf "law" "law" (zdJ zcO) (zcB zcO) (zat zcO) .none .none .none m55 none (.ref h55) .none,λs v=>.of_eq rfl,λbase _ _=>?_⟩
 let zlH:=zpw (P:=l.prog) (w:=w) (base:=base) ziB
 let zgq:=zsa (P:=l.prog) (w:=w) (base:=base) zju za2
 let zdp:=zrE (P:=l.prog) (w:=w) (base:=base) zgP zaX
 let zbx:=zq0 (P:=l.prog) (w:=w) (base:=base) zji zbh
 let zkv:=zpb (P:=l.prog) (w:=w) (base:=base) ziC zbx zaG zaX
 let zkq:=zrs (P:=l.prog) (w:=w) (base:=base) zh8 zkv zdp zbH
 let zdS:=zrw (P:=l.prog) (w:=w) (base:=base) ziL zaG zaX za2
 let zkZ:=znS (P:=l.prog) (w:=w) (base:=base) zim zaX zaG
 let zk6:=zoY (P:=l.prog) (w:=w) (base:=base) zj4 zbt
 let zhr:=zrI (P:=l.prog) (w:=w) (base:=base) zhP zdS zk6 zkZ
 let zi7:=zqT (P:=l.prog) (w:=w) (base:=base) zhx zbx
 let zev:=zpV (P:=l.prog) (w:=w) (base:=base) zgT zbx zi7
 let ze9:=zoe (P:=l.prog) (w:=w) (base:=base) zhK zev zaX zaG zbt
 let zlE:=zsV (P:=l.prog) (w:=w) (base:=base) zjh zdS ze9 zbx zaG
 let zkR:=zsC (P:=l.prog) (w:=w) (base:=base) zhm zhr zlE
 let zb5:=zpP (P:=l.prog) (w:=w) (base:=base) zaj zjO
 let zb0:=zr3 (P:=l.prog) (w:=w) (base:=base) zao zke
 let zb4:=zpS (P:=l.prog) (w:=w) (base:=base) zap zjS
 let zbW:=znA (P:=l.prog) (w:=w) (base:=base) zar zjp
 let zbY:=znG (P:=l.prog) (w:=w) (base:=base) zai zhW
 let zbT:=zn8 (P:=l.prog) (w:=w) (base:=base) zah zii
 let zls:=zqh (P:=l.prog) (w:=w) (base:=base) zao zaj zah zai zar zap ziG zb0 zb5 zbT zbY zbW zb4
 let zlv:=zoS (P:=l.prog) (w:=w) (base:=base) zaj zah zai zao zar zap ziq zb5 zbT zbY zb0 zbW zb4 zls
 let zds:=zoJ (P:=l.prog) (w:=w) (base:=base) zg4 zbk zcZ zc1 zdY zek
 let zlP:=zop (P:=l.prog) (w:=w) (base:=base) zj2 zds za2 zbk zcf zcL
 let zk2:=zsy (P:=l.prog) (w:=w) (base:=base) zhp zlP zds zbh za2 zbk zcf zbH zcL
 let zlg:=znB (P:=l.prog) (w:=w) (base:=base) zap zar zai zah zaj zao zgz
 let zkC:=zoC (P:=l.prog) (w:=w) (base:=base) zap zar zai zah zaj zao zh5
 let zbV:=zqa (P:=l.prog) (w:=w) (base:=base) zgL zaX zaG
 let zcF:=zsX (P:=l.prog) (w:=w) (base:=base) ziE
 let zf2:=zpH (P:=l.prog) (w:=w) (base:=base) zai zgQ zbV zcF
 let zfv:=zo5 (P:=l.prog) (w:=w) (base:=base) zai ziD zbV zcF
 let zla:=zn7 (P:=l.prog) (w:=w) (base:=base) zai zap zar zah zaj zao zh1 zfv zf2
 let zlb:=zoL (P:=l.prog) (w:=w) (base:=base) zh7
 let zfI:=zoI (P:=l.prog) (w:=w) (base:=base) zah zg2 zbV zlb
 let zgg:=zsb (P:=l.prog) (w:=w) (base:=base) zah zjC zbV zcF
 let zlp:=zqN (P:=l.prog) (w:=w) (base:=base) zah zap zar zai zaj zao ziz zgg zfI
 let zgK:=zrn (P:=l.prog) (w:=w) (base:=base) zkl
 let zc8:=znP (P:=l.prog) (w:=w) (base:=base) zin zaX zaG
 let zlx:=zrM (P:=l.prog) (w:=w) (base:=base) zjn
 let zkd:=zoF (P:=l.prog) (w:=w) (base:=base) zjZ zlx
 let ziJ:=zsN (P:=l.prog) (w:=w) (base:=base) ziA zc8 zkd
 let zlt:=zrc (P:=l.prog) (w:=w) (base:=base) zix zaG zaX
 let zdO:=zol (P:=l.prog) (w:=w) (base:=base) zhh zlt
 let zbP:=zoz (P:=l.prog) (w:=w) (base:=base) zg8
 let zd9:=zpt (P:=l.prog) (w:=w) (base:=base) zhd zdO ziJ zbP zgK zaG
 let zfl:=zsS (P:=l.prog) (w:=w) (base:=base) zaj zi8 zd9
 let zfn:=zo2 (P:=l.prog) (w:=w) (base:=base) zaj zjw zd9
 let zlB:=zsQ (P:=l.prog) (w:=w) (base:=base) zaj zap zar zai zah zao ziU zfn zfl
 let zb6:=znN (P:=l.prog) (w:=w) (base:=base) zjj zbh
 let zhb:=zsP (P:=l.prog) (w:=w) (base:=base) zjq zb6
 let zea:=zps (P:=l.prog) (w:=w) (base:=base) zig zhb
 let N_root:=Df.never (P:=l.prog) (w:=w) (base:=base) 0 zcy
 let zp7:=zrL (P:=l.prog) (w:=w) (base:=base) zcy zb6 zea zbP N_root
 let zd4:=zqK (P:=l.prog) (w:=w) (base:=base) zcy zb6 zea zbP zp7
 let zlM:=zrh (P:=l.prog) (w:=w) (base:=base) zhF zdO zc8 zbP zd4 zb6 zaG
 let zkx:=zsG (P:=l.prog) (w:=w) (base:=base) zao zap zar zai zah zaj zh4 zlM
 let G_law:=zpT (P:=l.prog) (w:=w) (base:=base) zao zaj zah zai zar zap zij zk2 zkx zlB zlp zla zkC zlg zlv zkR zkq zdp zgq zlH zbh za2 zbH
 exact G_law.ok
end Mine
open PySem PySem.W PyProof.Rows
set_option maxRecDepth 100003 in
set_option maxHeartbeats 0 in
theorem PySem.Challenge.cw_boxnarrow_k32_back_of_products_and_power_holds : PySem.Challenge.rw_boxnarrow_k32_back_of_products_and_power.Holds := by
 w_on; o_law
 refine PySem.W.holds_open (q:=Mine.vw) (loose:=[]) (Xt:=Mine.xt) (XP:=XL Mine.vw []) (Yf:=Hook.obs (kHook Mine.kp Mine.ks Mine.zeq)) (Ya:=Hook.val (kHook Mine.kp Mine.ks Mine.zeq))
  (YP:=Hook.says (kHook Mine.kp Mine.ks Mine.zeq)) (N:=8640) Mine.left (Hook.of (kHook Mine.kp Mine.ks Mine.zeq)) (Hook.keeps (kHook Mine.kp Mine.ks Mine.zeq)) (λs e=>xl_of s (Bool.and_eq_true_iff.mp e).1) XL.keeps
  (by rfl) (by rfl) (by rfl) (λs e=>recFacts_of (Bool.and_eq_true_iff.mp e).2) (by rfl) (by first | assumption | decide +kernel)
  (by decide +kernel) ⟨rfl,rfl,rfl,rfl,rfl,by decide +kernel⟩ ?hw ?hc
 (case hw=>w_witness2)
 k_fill
 refine L3.zpe (l:=PySem.Challenge.rw_boxnarrow_k32_back_of_products_and_power) (x:="_law_script") 8 rfl rfl ⟨rfl,by decide,by decide⟩ (λw h Y=>PySem.W.kIn_of Y) ?F
 case F=>
  intro w mg fa h KX G hmg
  refine' Mine.zs5 KX G hmg (zg9:=?zg9) (zhf:=?zhf) (zgU:=?zgU) (zic:=?zic) (zhT:=?zhT) (zjF:=?zjF) (zhl:=?zhl) (zhN:=?zhN) (zhE:=?zhE) (zjg:=?zjg) (zih:=?zih) (zi1:=?zi1) (zjI:=?zjI) (zjr:=?zjr) (zjo:=?zjo) (zgZ:=?zgZ) (zjD:=?zjD) (zjU:=?zjU) (zgF:=?zgF) (zj1:=?zj1) (zj8:=?zj8) (zha:=?zha) (zi5:=?zi5) (ziv:=?ziv) (zio:=?zio) (zjK:=?zjK) (zgV:=?zgV) (zhI:=?zhI) (zg3:=?zg3) (zjf:=?zjf) (zhO:=?zhO) (zhe:=?zhe) (zjT:=?zjT) (zhA:=?zhA) (ziQ:=?ziQ) (zgI:=?zgI) (zkk:=?zkk) (zgR:=?zgR) (zhJ:=?zhJ) (zgW:=?zgW) (ziO:=?ziO) (zis:=?zis) (zjv:=?zjv) (zgS:=?zgS) (zka:=?zka) (zhi:=?zhi) (zhv:=?zhv) (zhc:=?zhc) (zhg:=?zhg) (zhX:=?zhX) (zhM:=?zhM) (zjA:=?zjA) (ziV:=?ziV) (a0:=?a0) (l0:=?l0) (c0:=?c0) (a1:=?a1) (l1:=?l1) (c1:=?c1) (a2:=?a2) (l2:=?l2) (c2:=?c2) (a3:=?a3) (l3:=?l3) (c3:=?c3) (a4:=?a4) (l4:=?l4) (c4:=?c4) (a5:=?a5) (l5:=?l5) (c5:=?c5) (a6:=?a6) (l6:=?l6) (c6:=?c6) (a7:=?a7) (l7:=?l7) (c7:=?c7) (a8:=?a8) (l8:=?l8) (c8:=?c8) (a9:=?a9) (l9:=?l9) (c9:=?c9) (a10:=?a10) (l10:=?l10) (c10:=?c10) (a11:=?a11) (l11:=?l11) (c11:=?c11) (a12:=?a12) (l12:=?l12) (c12:=?c12) (a13:=?a13) (l13:=?l13) (c13:=?c13) (a14:=?a14) (l14:=?l14) (c14:=?c14) (a15:=?a15) (l15:=?l15) (c15:=?c15) (a16:=?a16) (l16:=?l16) (c16:=?c16) (a17:=?a17) (l17:=?l17) (c17:=?c17) (a18:=?a18) (l18:=?l18) (c18:=?c18) (a19:=?a19) (l19:=?l19) (c19:=?c19) (a20:=?a20) (l20:=?l20) (c20:=?c20) (a21:=?a21) (l21:=?l21) (c21:=?c21) (a22:=?a22) (l22:=?l22) (c22:=?c22) (a23:=?a23) (l23:=?l23) (c23:=?c23) (a24:=?a24) (l24:=?l24) (c24:=?c24) (a25:=?a25) (l25:=?l25) (c25:=?c25) (a26:=?a26) (l26:=?l26) (c26:=?c26) (a27:=?a27) (l27:=?l27) (c27:=?c27) (a28:=?a28) (l28:=?l28) (c28:=?c28) (a29:=?a29) (l29:=?l29) (c29:=?c29) (a30:=?a30) (l30:=?l30) (c30:=?c30) (a31:=?a31) (l31:=?l31) (c31:=?c31) (a32:=?a32) (l32:=?l32) (c32:=?c32) (a33:=?a33) (l33:=?l33) (c33:=?c33) (a34:=?a34) (l34:=?l34) (c34:=?c34) (a35:=?a35) (l35:=?l35) (c35:=?c35) (a36:=?a36) (l36:=?l36) (c36:=?c36) (a37:=?a37) (l37:=?l37) (c37:=?c37) (a38:=?a38) (l38:=?l38) (c38:=?c38) (a39:=?a39) (l39:=?l39) (c39:=?c39) (a40:=?a40) (l40:=?l40) (c40:=?c40) (a41:=?a41) (l41:=?l41) (c41:=?c41) (a42:=?a42) (l42:=?l42) (c42:=?c42) (a43:=?a43) (l43:=?l43) (c43:=?c43) (a44:=?a44) (l44:=?l44) (c44:=?c44) (a45:=?a45) (l45:=?l45) (c45:=?c45) (a46:=?a46) (l46:=?l46) (c46:=?c46) (a47:=?a47) (l47:=?l47) (c47:=?c47) (a48:=?a48) (l48:=?l48) (c48:=?c48) (a49:=?a49) (l49:=?l49) (c49:=?c49) (a50:=?a50) (l50:=?l50) (c50:=?c50) (a51:=?a51) (l51:=?l51) (c51:=?c51) (a52:=?a52) (l52:=?l52) (c52:=?c52) (a53:=?a53) (l53:=?l53) (c53:=?c53) (a54:=?a54) (l54:=?l54) (c54:=?c54) (a55:=?a55) (l55:=?l55) (c55:=?c55) (za2:=?za2) (zaX:=?zaX) (zbh:=?zbh) (zaG:=?zaG) (zbH:=?zbH) (zbt:=?zbt) (zbk:=?zbk) (zcZ:=?zcZ) (zc1:=?zc1) (zcf:=?zcf) (zdY:=?zdY) (zek:=?zek) (zcL:=?zcL)
  (case zg9 | zhf | zgU | zic | zhT | zjF | zhl | zhN | zhE | zjg | zih | zi1 | zjI | zjr | zjo | zgZ | zjD | zjU | zgF | zj1 | zj8 | zha | zi5 | ziv | zio | zjK | zgV | zhI | zg3 | zjf | zhO | zhe | zjT | zhA | ziQ | zgI | zkk | zgR | zhJ | zgW | ziO | zis | zjv | zgS | zka | zhi | zhv | zhc | zhg | zhX | zhM | zjA | ziV | za2 | zaX | zbh | zaG | zbH | zbt | zbk | zcZ | zc1 | zcf=>k_is)
  (case a0 | a1 | a2 | a3 | a4 | a5 | a6 | a7 | a8 | a9 | a10 | a11 | a12 | a13 | a14 | a21 | a22 | a23 | a24 | a25 | a28 | a29 | a33 | a37 | a38 | a39 | a40 | a41 | a42 | a43 | a44 | a45 | a49 | a50 | a51 | a52 | a53 | a55=>delta Mine.nsA; k_is)
  (case a15 | a16 | a17 | a18 | a19 | a20 | a26 | a27 | a30 | a31 | a32 | a34 | a35 | a36 | a46 | a47 | a48 | a54=>delta Mine.fdA; k_is)
  (case l0 | l1 | l2 | l3 | l4 | l5 | l6 | l7 | l8 | l9 | l10 | l11 | l12 | l13 | l14 | l15 | l16 | l17 | l18 | l19 | l20 | l21 | l22 | l23 | l24 | l25 | l26 | l27 | l28 | l29 | l30 | l31 | l32 | l33 | l34 | l35 | l36 | l37 | l38 | l39 | l40 | l41 | l42 | l43 | l44 | l45 | l46 | l47 | l48 | l49 | l50 | l51 | l52 | l53 | l54 | l55=>delta Mine.lkA; k_is)
  (case c0 | c1 | c2 | c3 | c4 | c5 | c6 | c7 | c8 | c9 | c10 | c11 | c12 | c13 | c14 | c15 | c16 | c17 | c18 | c19 | c20 | c21 | c22 | c23 | c24 | c25 | c26 | c27 | c28 | c29 | c30 | c31 | c32 | c33 | c34 | c35 | c36 | c37 | c38 | c39 | c40 | c41 | c42 | c43 | c44 | c45 | c46 | c47 | c48 | c49 | c50 | c51 | c52 | c53 | c54 | c55=>delta Mine.cdA; k_is)
  (case zdY=>exact L3.zkA _ _ (by simp))
  (case zek=>exact L3.zkA _ _ (by simp))
  (case zcL=>exact L3.zkA _ _ (by simp))
